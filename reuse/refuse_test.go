package reuse_test

import (
	"math"
	"math/rand"
	"slices"
	"strings"
	"testing"

	"graft/api"
	"graft/parse"
	"graft/reuse"
	"graft/table"
	"graft/tree"
)

// refused asks Parse for an error, and nothing beside.
func refused(t *testing.T, what string, x *table.Table, m *tree.Store, old *tree.Node, leaves []api.Leaf, ahead, behind int, want api.Errno) {
	t.Helper()
	rows := old.Rows()
	n, count, e := reuse.Parse(x, m, old, leaves, ahead, behind)
	if n != nil || count != (api.Count{}) || e != want {
		t.Errorf("P1201: %s, %d and %d: %v %v, not %v", what, ahead, behind, count, e, want)
	}
	if !slices.Equal(old.Rows(), rows) {
		t.Errorf("P1204: %s", what)
	}
}

// TestWrongLeaves: lists that are no rows of leaves, or too long, are told as Build tells them, whatever is said of those kept.
func TestWrongLeaves(t *testing.T) {
	x, m := made(t, ten), tree.New()
	old, _, _ := parse.Build(x, m, row("1+;", "1;"))
	end := api.Leaf{Kind: api.KEnd}
	for _, c := range []struct {
		what string
		l    []api.Leaf
		e    api.Errno
	}{
		{"none", nil, api.ErrLeaf},
		{"none, with room", make([]api.Leaf, 0, 5), api.ErrLeaf},
		{"no end", []api.Leaf{{Len: 1}}, api.ErrLeaf},
		{"two ends", []api.Leaf{end, end}, api.ErrLeaf},
		{"an end within", []api.Leaf{{Len: 1}, end, {Kind: 2, Len: 1}, end}, api.ErrLeaf},
		{"behind the end", []api.Leaf{end, {Len: 1}}, api.ErrLeaf},
		{"a negative Skip", []api.Leaf{{Skip: -1, Len: 2}, end}, api.ErrLeaf},
		{"a negative Len", []api.Leaf{{Skip: 2, Len: -1}, end}, api.ErrLeaf},
		{"a negative Skip of the end", []api.Leaf{{Kind: api.KEnd, Skip: -1}}, api.ErrLeaf},
		{"a negative Len of the end", []api.Leaf{{Kind: api.KEnd, Len: math.MinInt}}, api.ErrLeaf},
		{"trivia", []api.Leaf{{Kind: 3, Len: 1}, end}, api.ErrLeaf},
		{"the number of error", []api.Leaf{{Kind: 4, Len: 1}, end}, api.ErrLeaf},
		{"the number of end", []api.Leaf{{Kind: 5, Len: 1}, end}, api.ErrLeaf},
		{"a great kind", []api.Leaf{{Kind: math.MaxInt}, end}, api.ErrLeaf},
		{"a kind below all", []api.Leaf{{Kind: -3}, end}, api.ErrLeaf},
		{"a bad kind far behind an error", []api.Leaf{{Kind: 2}, {Kind: 1}, {Kind: 9}, end}, api.ErrLeaf},
		{"a byte too many", []api.Leaf{{Skip: 1, Len: api.MaxText - 3}, {Kind: 2, Len: 1}, {Kind: api.KEnd, Skip: 2}}, api.ErrLeaf},
		{"a byte too many in the end", []api.Leaf{{Len: api.MaxText}, {Kind: api.KEnd, Len: 1}}, api.ErrLeaf},
		{"sums that wrap round", []api.Leaf{{Skip: math.MaxInt, Len: math.MaxInt}, {Kind: 2, Len: 2}, end}, api.ErrLeaf},
		{"a sum that wraps round to 0", []api.Leaf{{Len: math.MaxInt}, {Len: math.MaxInt}, {Len: 2}, end}, api.ErrLeaf},
		{"too long, of nothing but wrong ones", slices.Repeat([]api.Leaf{{Kind: -9, Skip: -1}}, api.MaxText+2), api.ErrLong},
		{"too long, else right", append(make([]api.Leaf, api.MaxText+1), end), api.ErrLong},
		{"as long as may be, wrong", slices.Repeat([]api.Leaf{{Kind: -9, Skip: -1}}, api.MaxText+1), api.ErrLeaf},
	} {
		if _, _, e := parse.Build(x, tree.New(), c.l); e != c.e {
			t.Errorf("P1101: %s: %v", c.what, e)
		}
		for _, from := range [][2]int{{0, 0}, {-1, 0}, {0, math.MinInt}, {1, 1}, {9, 9}, {math.MaxInt, math.MaxInt}} {
			refused(t, c.what, x, m, old, c.l, from[0], from[1], c.e)
		}
	}
}

// TestRightLeaves: what is odd but may be.
func TestRightLeaves(t *testing.T) {
	b := newBench(made(t, ten))
	old := b.first(t, row("1+;", "1;"))
	for _, l := range [][]api.Leaf{
		{{Kind: api.KEnd}},
		{{Kind: api.KEnd, Skip: 3, Len: 4, Reach: -1}},
		{{Len: 1, Reach: -7}, {Kind: 2, Reach: math.MaxInt}, {Kind: api.KEnd, Reach: math.MinInt}},
		{{Skip: 1, Len: api.MaxText - 3}, {Kind: 2, Len: 1}, {Kind: api.KEnd, Skip: 1}},
		{{}, {}, {Kind: 2}, {Kind: api.KBad}, {Kind: 2}, {Kind: api.KEnd}},
	} {
		n, _ := b.next(t, old, l, 0, 0)
		now := slices.Insert(slices.Clone(l), 0, api.Leaf{Kind: 2})
		b.next(t, n, now, 0, len(l))
		b.next(t, n, l, len(l)-1, 0)
	}
	long := append(make([]api.Leaf, api.MaxText), api.Leaf{Kind: api.KEnd})
	n, count, e := reuse.Parse(b.x, b.m, old, long, 0, 0)
	if e != api.OK || count.Fresh != api.MaxText+2 {
		t.Errorf("P1201: %v %v", count, e)
	}
	if again, count, e := reuse.Parse(b.x, b.m, n, long, 1<<17, 1<<17); e != api.OK || count != (api.Count{Kept: api.MaxText, Fresh: 2}) || again == n {
		t.Errorf("P1203: %v %v", count, e)
	}
}

// TestFrom: ahead and behind that are none, or that two texts have not.
func TestFrom(t *testing.T) {
	x, m := made(t, ten), tree.New()
	old, _, _ := parse.Build(x, m, row("1+;", "1;1;"))
	for _, c := range []struct {
		what, now     string
		ahead, behind int
	}{
		{"ahead below 0", "1;1;", -1, 0},
		{"behind below 0", "1;1;", 0, -1},
		{"both below 0", "1;1;", -1, -1},
		{"ahead below 0, right together", "1;1;", -2, 3},
		{"behind below 0, right together", "1;1;", 3, -1},
		{"the least", "1;1;", math.MinInt, math.MinInt},
		{"the least and the greatest", "1;1;", math.MinInt, math.MaxInt},
		{"more ahead than both", "1;1;", 6, 0},
		{"more behind than both", "1;1;", 0, 6},
		{"more together than both", "1;1;", 3, 3},
		{"more than the new ones", "1;", 3, 1},
		{"more ahead than the new ones", "1;", 4, 0},
		{"more behind than the new ones", ";", 0, 3},
		{"more than the old ones", "1;1;1;", 4, 2},
		{"more ahead than the old ones", "1;1;1;", 6, 0},
		{"more behind than the old ones", "1;1;1;", 0, 6},
		{"a sum that wraps round", "1;1;", math.MaxInt, math.MaxInt},
		{"the greatest behind", "1;1;", 1, math.MaxInt},
		{"the greatest ahead", "1;1;", math.MaxInt, 1},
		{"a sum that wraps round to 0", "1;1;", 1 << 62, -1 << 62},
		{"a sum that wraps round to 1", "1;1;", math.MaxInt, math.MinInt + 2},
	} {
		refused(t, c.what, x, m, old, row("1+;", c.now), c.ahead, c.behind, api.ErrFrom)
	}
}

// TestUnlike: a kept leaf that differs from the old one in one thing alone; and the same leaf, if it is not kept.
func TestUnlike(t *testing.T) {
	x, m := made(t, ten), tree.New()
	right := row("1+;", "1 + 1;1;")
	old, _, _ := parse.Build(x, m, right)
	last := len(right) - 1
	for _, c := range []struct {
		what string
		do   func(l *api.Leaf)
	}{
		{"Kind", func(l *api.Leaf) { l.Kind = (l.Kind + 1) % 3 }},
		{"Kind, bad", func(l *api.Leaf) { l.Kind = api.KBad }},
		{"Skip", func(l *api.Leaf) { l.Skip++ }},
		{"Len", func(l *api.Leaf) { l.Len++ }},
		{"Reach, more", func(l *api.Leaf) { l.Reach++ }},
		{"Reach, less", func(l *api.Leaf) { l.Reach -= 20 }},
	} {
		for place := range right {
			if place == last && strings.HasPrefix(c.what, "Kind") {
				continue // it would be no row of leaves
			}
			now := slices.Clone(right)
			c.do(&now[place])
			refused(t, c.what, x, m, old, now, place+1, 0, api.ErrFrom)
			refused(t, c.what, x, m, old, now, 0, last+1-place, api.ErrFrom)
			refused(t, c.what, x, m, old, now, place+1, last-place, api.ErrFrom)
			refused(t, c.what, x, m, old, now, place, last+1-place, api.ErrFrom)
			n, _, e := reuse.Parse(x, m, old, now, place, last-place)
			want, _, _ := parse.Build(x, m, now)
			if e != api.OK || !slices.Equal(bare(n), bare(want)) {
				t.Errorf("P1201: %s at %d: %v", c.what, place, e)
			}
		}
	}
}

// TestUnlikePlaces: leaves are held against those at their places, from the front and from the end.
func TestUnlikePlaces(t *testing.T) {
	x, m := made(t, ten), tree.New()
	old, _, _ := parse.Build(x, m, row("1+;", "1;1+1;"))
	for _, c := range []struct {
		now           string
		ahead, behind int
	}{
		{";1+1;", 1, 0},
		{"1+1;", 2, 0},
		{"1;1;", 4, 0},
		{"1;1+1;1+", 0, 2},
		{"1;1;", 0, 4},
		{"1;1+;", 2, 3},
		{"1;1+1+;", 3, 3},
	} {
		refused(t, c.now, x, m, old, row("1+;", c.now), c.ahead, c.behind, api.ErrFrom)
	}
}

// TestAnyOld is P1: whatever the old tree is, the call ends, and answers a tree or an error.
func TestAnyOld(t *testing.T) {
	r := rand.New(rand.NewSource(1207))
	x, y := made(t, ten), made(t, twoBlocks)
	trees, kept := 0, 0
	for range 6000 {
		m := tree.New()
		old := strange(r, m, x)
		leaves := leavesOf(old)
		switch r.Intn(3) {
		case 0:
			at := r.Intn(len(leaves) + 1)
			leaves = slices.Insert(leaves, at, api.Leaf{Kind: r.Intn(3), Len: 1})
		case 1:
			leaves = slices.DeleteFunc(leaves, func(l api.Leaf) bool { return r.Intn(4) == 0 })
		}
		if r.Intn(4) > 0 {
			leaves = append(slices.DeleteFunc(leaves, func(l api.Leaf) bool { return l.Kind == api.KEnd }), api.Leaf{Kind: api.KEnd})
		}
		ahead, behind := most(leavesOf(old), leaves)
		for _, z := range []*table.Table{x, y} {
			for _, s := range []*tree.Store{m, tree.New()} {
				n, count, e := reuse.Parse(z, s, old, leaves, ahead, behind)
				if (n != nil) != (e == api.OK) || n != nil && count.Kept+count.Fresh != n.Size() || n == nil && count != (api.Count{}) {
					t.Fatalf("P1: %v %v %v", n, count, e)
				}
				if n != nil {
					trees++
				}
				if count.Kept > 4 && count.Fresh > 4 {
					kept++
				}
			}
		}
	}
	if trees < 6000 || kept < 100 {
		t.Errorf("too few trees: %d, %d", trees, kept)
	}
}

// strange is any tree, made by hand: nodes of any production, also of none that there is, in which others hang more than once; or a piece of a tree.
func strange(r *rand.Rand, m *tree.Store, x *table.Table) *tree.Node {
	var list []*tree.Node
	for range 2 + r.Intn(5) {
		kind := r.Intn(4)
		if kind == 3 {
			kind = []int{api.KBad, api.KEnd, 9, math.MaxInt}[r.Intn(4)]
		}
		list = append(list, m.Leaf(api.Leaf{Kind: kind, Len: 1}))
	}
	if r.Intn(2) == 0 {
		root, _, _ := parse.Build(x, m, row("1+;", []string{"1;1+1;", "1 1;;", "1", ""}[r.Intn(4)]))
		for _, below := range root.Walk() {
			list = append(list, below)
		}
	}
	for range r.Intn(12) {
		var kids []*tree.Node
		for range r.Intn(4) {
			kids = append(kids, list[r.Intn(len(list))])
		}
		kind, n := []int{api.NInner, api.NInner, api.NInner, api.NError, api.NRoot, api.NBroken}[r.Intn(6)], 0
		if kind == api.NInner {
			n = []int{r.Intn(7), r.Intn(7), r.Intn(12), math.MaxInt}[r.Intn(4)]
		}
		made, _ := m.Make(kind, n, kids...)
		list = append(list, made)
	}
	if r.Intn(2) == 0 {
		return list[r.Intn(len(list))]
	}
	root, _ := m.Make(api.NRoot, 0, list[len(list)-1], m.Leaf(api.Leaf{Kind: api.KEnd}))
	return root
}
