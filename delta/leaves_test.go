package delta_test

import (
	"math"
	"math/rand"
	"testing"

	"graft/api"
	"graft/delta"
	"graft/tree"
)

// rowsOver are all rows of at most so many of these nodes.
func rowsOver(l []*tree.Node, most int) [][]*tree.Node {
	out := [][]*tree.Node{nil}
	for from := 0; most > 0; most-- {
		to := len(out)
		for _, row := range out[from:to] {
			for _, n := range l {
				out = append(out, append(append([]*tree.Node{}, row...), n))
			}
		}
		from = to
	}
	return out
}

// TestAllSmallRows is P1501, P1502, P1504, P1506 and P1507 for all pairs of rows of at most four out of three leaves, one of them without bytes: leaves that stand twice in the one, in the other, in both, leaves turned round, none in common, no leaf.
func TestAllSmallRows(t *testing.T) {
	g := newGrove(t)
	var tops []*tree.Node
	for _, row := range rowsOver([]*tree.Node{g.leaf(2), g.leaf(0), g.leaf(1)}, 4) {
		tops = append(tops, g.over(row...))
	}
	for _, a := range tops {
		for _, b := range tops {
			holds(t, g.m, a, b)
		}
	}
}

// TestTurned is P1501 for all orders of six leaves: those that count are found from a's front on, not as many as can be.
func TestTurned(t *testing.T) {
	g := newGrove(t)
	var l []*tree.Node
	for range 6 {
		l = append(l, g.leaf(1))
	}
	a := g.over(l...)
	orders := 0
	var turn func(from int)
	turn = func(from int) {
		if from == len(l) {
			holds(t, g.m, a, g.over(l...))
			orders++
		}
		for i := from; i < len(l); i++ {
			l[from], l[i] = l[i], l[from]
			turn(from + 1)
			l[from], l[i] = l[i], l[from]
		}
	}
	turn(0)
	if orders != 720 {
		t.Errorf("%d orders", orders)
	}
}

// TestGreedy is P1501: the first leaf of a counts, though it stands last in b, and all others would count without it.
func TestGreedy(t *testing.T) {
	g := newGrove(t)
	x, y, z, w := g.leaf(1), g.leaf(1), g.leaf(1), g.leaf(1)
	wantLeaves(t, "the first stands last", g.over(x, y, z, w), g.over(y, z, w, x), []api.Hunk{{Upto: 3}, {From: 1, To: 4, Into: 4, Upto: 4}}, []api.Span{{To: 3}})
	wantLeaves(t, "the last stands first", g.over(x, y, z, w), g.over(w, x, y, z), []api.Hunk{{Upto: 1}, {From: 3, To: 4, Into: 4, Upto: 4}}, []api.Span{{To: 1}})
}

// TestThrice is P1501: a leaf that stands three times, or four, in the one tree counts as little as one that stands twice.
func TestThrice(t *testing.T) {
	g := newGrove(t)
	x, y := g.leaf(1), g.leaf(2)
	once := g.over(y, x)
	for times := 2; times < 6; times++ {
		row := []*tree.Node{y}
		for range times {
			row = append(row, x)
		}
		many := g.over(row...)
		wantLeaves(t, "many times in b", once, many, []api.Hunk{{From: 1, To: 2, Into: 1, Upto: 1 + times}}, []api.Span{{From: 2, To: 2 + times}})
		wantLeaves(t, "many times in a", many, once, []api.Hunk{{From: 1, To: 1 + times, Into: 1, Upto: 2}}, []api.Span{{From: 2, To: 3}})
		wantLeaves(t, "many times in both", many, many, []api.Hunk{{From: 1, To: 1 + times, Into: 1, Upto: 1 + times}}, []api.Span{{From: 2, To: 2 + times}})
	}
}

// TestTwiceDoesNotHinder is P1501: a leaf that does not count, since it stands twice in a, holds none back behind it.
func TestTwiceDoesNotHinder(t *testing.T) {
	g := newGrove(t)
	x, y, z := g.leaf(1), g.leaf(1), g.leaf(1)
	wantLeaves(t, "twice in a", g.over(z, z, x, y), g.over(x, y, z), []api.Hunk{{To: 2}, {From: 4, To: 4, Into: 2, Upto: 3}}, []api.Span{{From: 2, To: 3}})
	wantLeaves(t, "turned round", g.over(y, x, z), g.over(x, y, z), []api.Hunk{{Upto: 1}, {From: 1, To: 2, Into: 2, Upto: 2}}, []api.Span{{To: 1}})
}

// TestAlike is P1501: leaves that are alike in all but their Numbers are not the same.
func TestAlike(t *testing.T) {
	g := newGrove(t)
	l := api.Leaf{Kind: 1, Skip: 1, Len: 2, Reach: 4}
	a, b := g.over(g.m.Leaf(l), g.m.Leaf(l)), g.over(g.m.Leaf(l), g.m.Leaf(l))
	wantLeaves(t, "other nodes", a, b, []api.Hunk{{To: 2, Upto: 2}}, []api.Span{{To: 6}})
	holds(t, g.m, a, b)
}

// TestWhereLeavesStand is P1501 and P1502: leaves of the one alone, ahead of the first that counts, between two, behind the last.
func TestWhereLeavesStand(t *testing.T) {
	g := newGrove(t)
	x, y, n, m := g.leaf(2), g.leaf(3), g.leaf(1), g.leaf(4)
	plain := g.over(x, y)
	for _, c := range []struct {
		what   string
		with   *tree.Node
		at, to int
		span   api.Span
	}{
		{"ahead", g.over(n, m, x, y), 0, 2, api.Span{To: 5}},
		{"between", g.over(x, n, m, y), 1, 3, api.Span{From: 2, To: 7}},
		{"behind", g.over(x, y, n, m), 2, 4, api.Span{From: 5, To: 10}},
	} {
		wantLeaves(t, c.what+" in b", plain, c.with, []api.Hunk{{From: c.at, To: c.at, Into: c.at, Upto: c.to}}, []api.Span{c.span})
		wantLeaves(t, c.what+" in a", c.with, plain, []api.Hunk{{From: c.at, To: c.to, Into: c.at, Upto: c.at}}, nil)
	}
}

// TestFew is P1501 to P1507 for single leaves, nodes without leaves, a node and itself, a node and one below it.
func TestFew(t *testing.T) {
	g := newGrove(t)
	x, y, none := g.leaf(2), g.leaf(0), g.over()
	inner := g.node(api.NInner, 4, x, none, y)
	nodes := []*tree.Node{x, y, g.leaf(2), none, g.over(), g.over(none, none), inner, g.node(api.NRoot, 0, inner, g.leaf(0)), g.node(api.NBroken, 0, x, y), g.over(inner, inner), g.over(none, inner)}
	for _, a := range nodes {
		for _, b := range nodes {
			holds(t, g.m, a, b)
		}
	}
	wantLeaves(t, "a leaf and itself", x, x, nil, nil)
	wantLeaves(t, "two leaves", x, nodes[2], []api.Hunk{{To: 1, Upto: 1}}, []api.Span{{To: 2}})
	wantLeaves(t, "a leaf and nothing", x, none, []api.Hunk{{To: 1}}, nil)
	wantLeaves(t, "nothing and a leaf", none, x, []api.Hunk{{Upto: 1}}, []api.Span{{To: 2}})
	wantLeaves(t, "nothing and nothing", none, nodes[5], nil, nil)
	wantLeaves(t, "a node and one below", inner, y, []api.Hunk{{To: 1}}, nil)
	wantLeaves(t, "one below and the node", y, inner, []api.Hunk{{Upto: 1}}, []api.Span{{To: 2}})
}

// odd are leaves with numbers that no text has, and with the greatest ones that it has.
func odd() []api.Leaf {
	return []api.Leaf{{Skip: -1, Len: 2}, {Skip: 3, Len: math.MinInt}, {Skip: math.MaxInt, Len: math.MaxInt}, {Skip: api.MaxText, Len: api.MaxText}, {Skip: api.MaxText + 1, Len: 1}, {Kind: api.KBad, Len: 1}, {Kind: api.KEnd, Skip: 2}, {Kind: math.MinInt, Reach: -5}}
}

// TestRandom is P1501 to P1507 for many trees by hand that have leaves and nodes in common, in any order.
func TestRandom(t *testing.T) {
	r := rand.New(rand.NewSource(1501))
	met := map[string]int{}
	for range 400 {
		g := newGrove(t)
		var all []*tree.Node
		for range 12 {
			l := api.Leaf{Kind: r.Intn(4) - 2, Skip: max(0, r.Intn(4)-2), Len: r.Intn(3), Reach: r.Intn(9)}
			if r.Intn(5) == 0 {
				l = odd()[r.Intn(len(odd()))]
			}
			all = append(all, g.m.Leaf(l))
		}
		for range 30 {
			all = append(all, g.any(r, all))
		}
		for range 40 {
			a, b := all[r.Intn(len(all))], all[r.Intn(len(all))]
			holds(t, g.m, a, b)
			count(met, a, b)
		}
	}
	wantMet(t, met, 100, "a hunk", "no hunk", "two of a's leaves", "many hunks", "a hunk of a alone", "a hunk of b alone", "a hunk of both", "twice in a", "twice in b", "turned", "one below the other", "an old node above leaves", "an old node twice", "no leaf in common")
}

// any makes a node over some of these, of any kind.
func (g grove) any(r *rand.Rand, all []*tree.Node) *tree.Node {
	g.t.Helper()
	var kids []*tree.Node
	for left := 60; len(kids) < 8 && r.Intn(8) > 0; {
		k := all[r.Intn(len(all))]
		if left -= k.Size(); left < 0 {
			break
		}
		kids = append(kids, k)
	}
	kind, n := api.NInner+r.Intn(4), 0
	if kind == api.NInner {
		n = r.Intn(5)
	}
	return g.node(kind, n, kids...)
}

// count keeps in mind what kinds of pairs were met.
func count(met map[string]int, a, b *tree.Node) {
	rowsA, rowsB := leafRows(a), leafRows(b)
	hunks := delta.Leaves(a, b)
	if len(hunks) == 0 {
		met["no hunk"]++
	}
	if len(hunks) > 3 {
		met["many hunks"]++
	}
	for _, h := range hunks {
		met["a hunk"]++
		switch {
		case h.From == h.To:
			met["a hunk of b alone"]++
		case h.Into == h.Upto:
			met["a hunk of a alone"]++
		default:
			met["a hunk of both"]++
		}
		if h.To-h.From == 2 {
			met["two of a's leaves"]++
		}
	}
	common, turned := 0, 0
	for _, r := range rowsA {
		inA, inB := len(placesOf(rowsA, r.Id)), len(placesOf(rowsB, r.Id))
		switch {
		case inA > 1 && inB == 1:
			met["twice in a"]++
		case inA == 1 && inB > 1:
			met["twice in b"]++
		case inA == 1 && inB == 1:
			turned++
		}
		common += inB
	}
	if common == 0 && len(rowsA)*len(rowsB) > 0 {
		met["no leaf in common"]++
	}
	if turned > len(countingByWords(rowsA, rowsB)) {
		met["turned"]++
	}
	countSteps(met, a, b)
}

// countSteps is count for what scripts are made of.
func countSteps(met map[string]int, a, b *tree.Node) {
	if a != b && numbers(a)[b.Number()] || a != b && numbers(b)[a.Number()] {
		met["one below the other"]++
	}
	kept := map[int]int{}
	for _, step := range delta.Script(a, b) {
		if step.Do == api.OKeep {
			kept[step.Id]++
			if kept[step.Id] == 2 {
				met["an old node twice"]++
			}
		}
	}
	for _, r := range b.Rows() {
		if kept[r.Id] > 0 && r.Kids > 0 && b.Number() != r.Id {
			met["an old node above leaves"]++
		}
	}
}

// wantMet wants so many of each kind.
func wantMet(t *testing.T, met map[string]int, least int, kinds ...string) {
	t.Helper()
	for _, what := range kinds {
		if met[what] < least {
			t.Errorf("too few: %s: %d", what, met[what])
		}
	}
}
