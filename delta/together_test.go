package delta_test

import (
	"slices"
	"sync"
	"testing"

	"graft/api"
	"graft/delta"
)

// TestTogether is P2 and P3: several ask about the same trees, and go over one sequence, at one time; each is told what he would be alone.
func TestTogether(t *testing.T) {
	g := newGrove(t)
	a, b, want := combs(g, 20)
	seq := delta.Ranges(a, b)
	hunks, steps := delta.Leaves(a, b), delta.Script(a, b)
	edits := []api.Edit{edit(4, 2, "abc"), edit(0, 0, "x")}
	var all sync.WaitGroup
	for range 8 {
		all.Add(1)
		go func() {
			defer all.Done()
			for range 20 {
				own := delta.Leaves(a, b)
				if !slices.Equal(slices.Collect(seq), want) || !slices.Equal(own, hunks) || !slices.Equal(delta.Script(a, b), steps) {
					t.Error("P3: told otherwise")
				}
				spoil(own, api.Hunk{})
				if place, e := delta.Move(9, 0, edits); place != 11 || e != api.OK {
					t.Errorf("P3: %d %v", place, e)
				}
				if n, e := delta.Apply(g.m, a, []api.Op{keep(a)}); n != a || e != api.OK {
					t.Errorf("P3: %v", e)
				}
			}
		}()
	}
	all.Wait()
}
