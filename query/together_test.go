package query_test

import (
	"iter"
	"slices"
	"sync"
	"testing"

	"graft/api"
	"graft/query"
)

// TestTogether is P2 and P3: a query never changes: several ask it, and go over one sequence of it, at one time; each is told what he would be alone.
func TestTogether(t *testing.T) {
	e := compiled(t, ten)
	n := planted(t, e, sample)
	var queries []*query.Query
	var seqs []iter.Seq[api.Match]
	var want [][]api.Match
	for _, ask := range asks() {
		q := parsed(t, e.Spec(), ask)
		seq, _ := q.Match(n, []byte(sample))
		queries, seqs, want = append(queries, q), append(seqs, seq), append(want, slices.Collect(seq))
	}
	var all sync.WaitGroup
	for worker := range 8 {
		all.Add(1)
		go func() {
			defer all.Done()
			for turn := range 40 {
				i := (worker + turn) % len(queries)
				got := slices.Collect(seqs[i])
				first, ok, _ := queries[i].First(n, []byte(sample))
				k, _ := queries[i].Count(n, []byte(sample))
				if !slices.EqualFunc(got, want[i], same) || !ok || !same(first, want[i][0]) || k != len(want[i]) || queries[i].Print() == "" || len(queries[i].Names()) == 0 {
					t.Errorf("P3: %s", queries[i].Print())
				}
				for _, m := range got {
					spoilMatch(m)
				}
			}
		}()
	}
	all.Wait()
}
