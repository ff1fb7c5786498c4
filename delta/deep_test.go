package delta_test

import (
	"slices"
	"strings"
	"testing"

	"graft/api"
	"graft/delta"
	"graft/tree"
)

// chain is so many nodes over one another, with a leaf beside each, ahead or behind.
func (g grove) chain(bottom *tree.Node, beside []*tree.Node, ahead bool) *tree.Node {
	g.t.Helper()
	for i, leaf := range beside {
		if ahead {
			bottom = g.node(api.NInner, i%7, leaf, bottom)
		} else {
			bottom = g.node(api.NInner, i%7, bottom, leaf)
		}
	}
	return bottom
}

// many makes so many leaves of a byte.
func (g grove) many(count int) []*tree.Node {
	l := make([]*tree.Node, count)
	for i := range l {
		l[i] = g.leaf(1)
	}
	return l
}

// wantRoundTrip is P1506 for trees of any depth.
func wantRoundTrip(t *testing.T, m *tree.Store, a, b *tree.Node, steps int) {
	t.Helper()
	l := delta.Script(a, b)
	if len(l) != steps {
		t.Errorf("P1504: %d steps, want %d", len(l), steps)
	}
	n, e := delta.Apply(m, a, l)
	if e != api.OK || n == nil {
		t.Fatalf("P1505: %v", e)
	}
	if !slices.Equal(bare(n), bare(b)) {
		t.Error("P1506: the tree is another")
	}
	old, rows := numbers(a), n.Rows()
	for i, r := range b.Rows() {
		if old[r.Id] != (rows[i].Id == r.Id) {
			t.Fatalf("P1506: row %d", i)
		}
	}
}

// TestDeep is P1 for trees as deep as the longest texts are long, which grow on the left or on the right, with another bottom, and with another top.
func TestDeep(t *testing.T) {
	const deep = 1 << 18
	for _, ahead := range []bool{true, false} {
		g := newGrove(t)
		beside := g.many(deep)
		x, y := g.leaf(2), g.leaf(3)
		a, b := g.chain(x, beside, ahead), g.chain(y, beside, ahead)
		place, at := 0, 0
		if ahead {
			place, at = deep, deep
		}
		wantLeaves(t, "another bottom", a, b, []api.Hunk{{From: place, To: place + 1, Into: place, Upto: place + 1}}, []api.Span{{From: at, To: at + 3}})
		wantLeaves(t, "itself", a, a, nil, nil)
		wantRoundTrip(t, g.m, a, b, 2*deep+1)
		top := g.over(y, a)
		wantLeaves(t, "another top", a, top, []api.Hunk{{Upto: 1}}, []api.Span{{To: 3}})
		wantRoundTrip(t, g.m, a, top, 3)
		wantRoundTrip(t, g.m, top, a, 1)
		wantRoundTrip(t, g.m, x, a, 2*deep+1)
		wantApply(t, "one from far below", g.m, a, api.OK, keep(x), join(api.NRoot, 0, 1))
	}
}

// TestAlone is P1 for nodes over one another with nothing beside them, above a leaf and above nothing.
func TestAlone(t *testing.T) {
	const deep = 1 << 20
	g := newGrove(t)
	x := g.leaf(2)
	for _, bottom := range []*tree.Node{x, g.over()} {
		a := bottom
		for range deep {
			a = g.over(a)
		}
		wantRoundTrip(t, g.m, bottom, a, deep+1)
		wantRoundTrip(t, g.m, a, bottom, 1)
		if h := delta.Leaves(a, bottom); len(h) > 0 {
			t.Errorf("P1501: %v", h)
		}
	}
}

// TestWide is P1501 to P1506 for nodes with very many children: all the same, every second one another, turned round, one leaf again and again.
func TestWide(t *testing.T) {
	const wide = 1 << 18
	g := newGrove(t)
	l := g.many(wide)
	a := g.over(l...)
	wantLeaves(t, "the same", a, g.over(l...), nil, nil)
	wantRoundTrip(t, g.m, a, g.over(l...), wide+1)
	other := slices.Clone(l)
	var hunks []api.Hunk
	var spans []api.Span
	for i := 0; i < wide; i += 2 {
		other[i] = g.leaf(1)
		hunks = append(hunks, api.Hunk{From: i, To: i + 1, Into: i, Upto: i + 1})
		spans = append(spans, api.Span{From: i, To: i + 1})
	}
	wantLeaves(t, "every second one", a, g.over(other...), hunks, spans)
	wantRoundTrip(t, g.m, a, g.over(other...), wide+1)
	turned := slices.Clone(l)
	slices.Reverse(turned)
	wantLeaves(t, "turned round", a, g.over(turned...), []api.Hunk{{Upto: wide - 1}, {From: 1, To: wide, Into: wide, Upto: wide}}, []api.Span{{To: wide - 1}})
	for i := range turned {
		turned[i] = l[0]
	}
	wantLeaves(t, "one leaf", a, g.over(turned...), []api.Hunk{{To: wide, Upto: wide}}, []api.Span{{To: wide}})
}

// TestShared is P1 for trees of few nodes with as many rows as may be.
func TestShared(t *testing.T) {
	g := newGrove(t)
	x, y := g.leaf(1), g.leaf(2)
	a, b := x, y
	for range 20 {
		a, b = g.over(a, a), g.over(b, b)
	}
	const leaves = 1 << 20
	wantLeaves(t, "nothing in common", a, b, []api.Hunk{{To: leaves, Upto: leaves}}, []api.Span{{To: 2 * leaves}})
	wantLeaves(t, "itself", a, a, []api.Hunk{{To: leaves, Upto: leaves}}, []api.Span{{To: leaves}})
	wantLeaves(t, "one leaf", x, g.over(x, b), []api.Hunk{{From: 1, To: 1, Into: 1, Upto: leaves + 1}}, []api.Span{{From: 1, To: 2*leaves + 1}})
	wantRoundTrip(t, g.m, a, g.over(a, y), 3)
	if l := delta.Script(a, b); len(l) != 2*leaves-1 || l[0] != put(api.Leaf{Len: 2}) || l[len(l)-1] != join(api.NError, 0, 2) {
		t.Errorf("P1504: %d steps", len(l))
	}
}

// TestLongTexts is P1 and P1509 for texts as long as may be: deep ones, flat ones, wrong and broken ones, that are edited at the front, in the midst and at the end.
func TestLongTexts(t *testing.T) {
	const n = api.MaxText - 8
	for _, c := range []struct{ what, language, text, ins string }{
		{"deep", nest, strings.Repeat("l", n/2-1) + "x" + strings.Repeat("r", n/2), "l"},
		{"deep, never closed", nest, strings.Repeat("l", n), "r"},
		{"a list on the left", ten, strings.Repeat("1;", n/2), "2;"},
		{"a list on the right", blocks, strings.Repeat("x;", n/2), "x;"},
		{"blocks in blocks", blocks, strings.Repeat("o", n/2) + strings.Repeat("c", n/2), "x;"},
		{"broken", strict, strings.Repeat("b", n), "a"},
		{"one leaf", strict, strings.Repeat("a", n), "b"},
	} {
		t.Run(c.what, func(t *testing.T) {
			t.Parallel()
			p := open(t, c.language, c.text)
			for _, at := range []int{0, n / 2, n} {
				now, ahead, behind := p.edited(edit(at, 0, c.ins))
				wantKept(t, p.root, now.root, ahead, behind)
				spans := slices.Collect(delta.Ranges(p.root, now.root))
				if len(spans) != 1 || spans[0].From > at || spans[0].To < at+len(c.ins) {
					t.Errorf("P1502: %v, at %d", spans, at)
				}
				wantRoundTrip(t, p.store, p.root, now.root, len(delta.Script(p.root, now.root)))
			}
		})
	}
}
