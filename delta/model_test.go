package delta_test

import (
	"slices"
	"testing"

	"graft/api"
	"graft/delta"
	"graft/tree"
)

// leafRows are the rows of a tree's leaves.
func leafRows(n *tree.Node) (out []api.Row) {
	for _, r := range n.Rows() {
		if r.Kind == api.NLeaf {
			out = append(out, r)
		}
	}
	return out
}

// bytesOf is P1001's Width of a leaf.
func bytesOf(r api.Row) (sum int) {
	for _, n := range []int{r.Skip, r.Len} {
		if n >= 0 && n <= 262144 {
			sum += n
		}
	}
	return sum
}

// placesOf are the places at which a Number stands in a row of leaves.
func placesOf(l []api.Row, id int) (out []int) {
	for i, r := range l {
		if r.Id == id {
			out = append(out, i)
		}
	}
	return out
}

// pair is the two places of a leaf that counts.
type pair struct {
	a, b int
}

// countingByWords is P1501's first paragraph.
func countingByWords(a, b []api.Row) (out []pair) {
	for i, x := range a {
		inB := placesOf(b, x.Id)
		if len(placesOf(a, x.Id)) != 1 || len(inB) != 1 {
			continue
		}
		if !slices.ContainsFunc(out, func(p pair) bool { return p.b >= inB[0] }) {
			out = append(out, pair{i, inB[0]})
		}
	}
	return out
}

// hunksByWords is P1501: what lies between each leaf that counts and the next, and at the ends.
func hunksByWords(a, b []api.Row) (out []api.Hunk) {
	ends := append([]pair{{-1, -1}}, countingByWords(a, b)...)
	ends = append(ends, pair{len(a), len(b)})
	for i := range len(ends) - 1 {
		h := api.Hunk{From: ends[i].a + 1, To: ends[i+1].a, Into: ends[i].b + 1, Upto: ends[i+1].b}
		if h.To-h.From+h.Upto-h.Into > 0 {
			out = append(out, h)
		}
	}
	return out
}

// spansByWords is P1502.
func spansByWords(b []api.Row, hunks []api.Hunk) (out []api.Span) {
	begin := func(place int) (sum int) {
		for _, r := range b[:place] {
			sum += bytesOf(r)
		}
		return sum
	}
	for _, h := range hunks {
		if begin(h.Upto) > begin(h.Into) {
			out = append(out, api.Span{From: begin(h.Into), To: begin(h.Upto-1) + bytesOf(b[h.Upto-1])})
		}
	}
	return out
}

// stepsByWords is P1504, for a node of a tree whose old Numbers these are.
func stepsByWords(old map[int]bool, n *tree.Node) (out []api.Op) {
	l, isLeaf := n.Leaf()
	switch {
	case old[n.Number()]:
		return []api.Op{{Do: api.OKeep, Id: n.Number()}}
	case isLeaf:
		return []api.Op{{Do: api.OLeaf, Leaf: l}}
	}
	for i := range n.Count() {
		k, _ := n.Kid(i)
		out = append(out, stepsByWords(old, k)...)
	}
	return append(out, api.Op{Do: api.OMake, Kind: n.Kind(), N: n.N(), Kids: n.Count()})
}

// numbers are those of all nodes of a tree.
func numbers(n *tree.Node) map[int]bool {
	ids := map[int]bool{}
	for _, r := range n.Rows() {
		ids[r.Id] = true
	}
	return ids
}

// bare is a tree's rows, Ids left out.
func bare(n *tree.Node) []api.Row {
	rows := n.Rows()
	for i := range rows {
		rows[i].Id = 0
	}
	return rows
}

// holds holds all that is told of two trees against the words: P1501, P1502, P1504, P1506, P1507; and that both stay as they were.
func holds(t *testing.T, m *tree.Store, a, b *tree.Node) {
	t.Helper()
	wasA, wasB := a.Rows(), b.Rows()
	rowsA, rowsB := leafRows(a), leafRows(b)
	hunks := hunksByWords(rowsA, rowsB)
	wantLeaves(t, "by its words", a, b, hunks, spansByWords(rowsB, hunks))
	wantSameOutside(t, rowsA, rowsB, delta.Leaves(a, b))
	wantBytesOutside(t, rowsA, rowsB, slices.Collect(delta.Ranges(a, b)))
	wantScript(t, m, a, b)
	if !slices.Equal(a.Rows(), wasA) || !slices.Equal(b.Rows(), wasB) {
		t.Error("P2: a tree has changed")
	}
	if t.Failed() {
		t.Fatalf("of %v and %v", wasA, wasB)
	}
}

// wantSameOutside is P1507's first sentence: what stands in no Hunk is the same nodes.
func wantSameOutside(t *testing.T, a, b []api.Row, hunks []api.Hunk) {
	t.Helper()
	left := func(l []api.Row, from, to func(api.Hunk) int) (out []int) {
		for i, r := range l {
			if !slices.ContainsFunc(hunks, func(h api.Hunk) bool { return from(h) <= i && i < to(h) }) {
				out = append(out, r.Id)
			}
		}
		return out
	}
	inA := left(a, func(h api.Hunk) int { return h.From }, func(h api.Hunk) int { return h.To })
	inB := left(b, func(h api.Hunk) int { return h.Into }, func(h api.Hunk) int { return h.Upto })
	if !slices.Equal(inA, inB) {
		t.Errorf("P1507: outside of the hunks stand %v and %v", inA, inB)
	}
}

// wantBytesOutside is P1507's second sentence: the leaves with bytes outside of the spans stand in a, in their order.
func wantBytesOutside(t *testing.T, a, b []api.Row, spans []api.Span) {
	t.Helper()
	at, next := 0, 0
	for _, r := range b {
		from, to := at, at+bytesOf(r)
		at = to
		if from == to || slices.ContainsFunc(spans, func(s api.Span) bool { return s.From <= from && to <= s.To }) {
			continue
		}
		if slices.ContainsFunc(spans, func(s api.Span) bool { return s.From < to && from < s.To }) {
			t.Errorf("P1507: a span cuts a leaf of %d to %d", from, to)
		}
		for next < len(a) && a[next].Id != r.Id {
			next++
		}
		if next == len(a) {
			t.Errorf("P1507: the bytes %d to %d are none of a's, in their order", from, to)
			return
		}
		next++
	}
}

// wantScript is P1504 and P1506.
func wantScript(t *testing.T, m *tree.Store, a, b *tree.Node) {
	t.Helper()
	old := numbers(a)
	steps := delta.Script(a, b)
	if want := stepsByWords(old, b); !slices.Equal(steps, want) {
		t.Errorf("P1504: %v, want %v", steps, want)
	}
	n, e := delta.Apply(m, a, steps)
	if n == nil || e != api.OK {
		t.Fatalf("P1506: %v", e)
	}
	if !slices.Equal(bare(n), bare(b)) {
		t.Errorf("P1506: %v, want %v", bare(n), bare(b))
	}
	rows, were := n.Rows(), numbers(b)
	for i, r := range b.Rows() {
		id := rows[i].Id
		switch {
		case old[r.Id] && id != r.Id:
			t.Errorf("P1506: row %d is not the old node", i)
		case !old[r.Id] && (old[id] || were[id]):
			t.Errorf("P1506: row %d is no new node", i)
		}
		were[id] = true
	}
}
