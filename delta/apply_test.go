package delta_test

import (
	"math"
	"math/rand"
	"slices"
	"testing"

	"graft/api"
	"graft/delta"
	"graft/tree"
)

// TestApply is P1505: right steps of each kind.
func TestApply(t *testing.T) {
	g := newGrove(t)
	x, y := g.leaf(2), g.leaf(1)
	inner := g.node(api.NInner, 5, x, y)
	a := g.node(api.NRoot, 0, inner, y)
	l := api.Leaf{Kind: 4, Skip: 1, Len: 3, Reach: 6}
	for _, n := range []*tree.Node{x, y, inner, a} {
		if got := wantApply(t, "kept", g.m, a, api.OK, keep(n)); got != n {
			t.Error("P1505: OKeep is not that node")
		}
	}
	if got := wantApply(t, "a leaf", g.m, a, api.OK, put(l)); got.Kind() != api.NLeaf || got.Width() != 4 {
		t.Errorf("P1505: a leaf: %v", got.Rows())
	}
	if got := wantApply(t, "nothing below", g.m, a, api.OK, join(api.NInner, 7, 0)); got.Kind() != api.NInner || got.N() != 7 || got.Count() != 0 {
		t.Errorf("P1505: nothing below: %v", got.Rows())
	}
	got := wantApply(t, "the last ones", g.m, a, api.OK, keep(x), keep(inner), keep(y), put(l), join(api.NInner, 9, 2), keep(x), join(api.NBroken, 0, 4))
	want := []api.Row{{Kind: api.NBroken, Kids: 4}, {Kind: api.NLeaf, Len: 2}, {Kind: api.NInner, N: 5, Kids: 2}, {Kind: api.NLeaf, Len: 2}, {Kind: api.NLeaf, Len: 1}, {Kind: api.NInner, N: 9, Kids: 2}, {Kind: api.NLeaf, Len: 1}, {Kind: api.NLeaf, N: 4, Skip: 1, Len: 3}, {Kind: api.NLeaf, Len: 2}}
	if !slices.Equal(bare(got), want) {
		t.Errorf("P1505: %v, want %v", bare(got), want)
	}
	for i, old := range []*tree.Node{x, inner, nil, x} {
		if k, _ := got.Kid(i); old != nil && k != old {
			t.Errorf("P1505: kid %d is not the old node", i)
		}
	}
	wantApply(t, "none of them", g.m, a, api.ErrOp, keep(x), join(api.NError, 0, 0))
	wantApply(t, "all kept together", g.m, a, api.OK, keep(x), join(api.NError, 0, 0), join(api.NError, 0, 2))
}

// TestWrongSteps is P1505: each kind of wrong step, alone and with right ones around it.
func TestWrongSteps(t *testing.T) {
	g := newGrove(t)
	x, other := g.leaf(2), g.leaf(1)
	a := g.node(api.NRoot, 0, g.over(x))
	b := g.over(x, other)
	third := g.node(api.NInner, 1, a, g.leaf(4)) // it has a below it, but is not of a's tree
	id := x.Number()
	leaf := api.Leaf{Len: 1}
	for what, step := range map[string]api.Op{
		"nothing": {}, "Do 4": {Do: 4}, "Do -1": {Do: -1}, "Do, the least": {Do: math.MinInt}, "Do, the greatest": {Do: math.MaxInt}, "Do 0 with an Id": {Id: id}, "Do 4 with a leaf": {Do: 4, Leaf: leaf},
		"keep with Kind": {Do: api.OKeep, Id: id, Kind: 1}, "keep with N": {Do: api.OKeep, Id: id, N: 1}, "keep with Kids": {Do: api.OKeep, Id: id, Kids: -1}, "keep with a leaf's Kind": {Do: api.OKeep, Id: id, Leaf: api.Leaf{Kind: -1}},
		"keep with Skip": {Do: api.OKeep, Id: id, Leaf: api.Leaf{Skip: 1}}, "keep with Len": {Do: api.OKeep, Id: id, Leaf: leaf}, "keep with Reach": {Do: api.OKeep, Id: id, Leaf: api.Leaf{Reach: 1}},
		"leaf with Id": {Do: api.OLeaf, Id: id, Leaf: leaf}, "leaf with Kind": {Do: api.OLeaf, Kind: api.NLeaf, Leaf: leaf}, "leaf with N": {Do: api.OLeaf, N: 1, Leaf: leaf}, "leaf with Kids": {Do: api.OLeaf, Kids: 1, Leaf: leaf},
		"make with Id": {Do: api.OMake, Id: id, Kind: api.NError}, "make with a leaf's Kind": {Do: api.OMake, Kind: api.NError, Leaf: api.Leaf{Kind: 1}}, "make with Skip": {Do: api.OMake, Kind: api.NError, Leaf: api.Leaf{Skip: -1}}, "make with Len": {Do: api.OMake, Kind: api.NError, Leaf: leaf}, "make with Reach": {Do: api.OMake, Kind: api.NError, Leaf: api.Leaf{Reach: 1}},
		"keep 0": {Do: api.OKeep}, "keep below 0": {Do: api.OKeep, Id: -id}, "keep the least": {Do: api.OKeep, Id: math.MinInt}, "keep the greatest": {Do: api.OKeep, Id: math.MaxInt}, "keep b": keep(b), "keep b's own": keep(other), "keep of a third tree": keep(third), "keep of no tree yet": {Do: api.OKeep, Id: 1 << 30},
		"Kids -1": join(api.NError, 0, -1), "Kids, the least": join(api.NError, 0, math.MinInt), "Kids, more": join(api.NError, 0, 2), "Kids, the greatest": join(api.NError, 0, math.MaxInt),
		"no kind, and Kids too": join(9, 0, 2), "a number below 0, and Kids too": join(api.NInner, -1, -1), "no kind, and an Id too": {Do: api.OMake, Id: 1, Kind: 9},
	} {
		wantApply(t, what, g.m, a, api.ErrOp, step)
		wantApply(t, what+", with others behind", g.m, a, api.ErrOp, step, join(99, 0, 0))
		wantApply(t, what+", with one ahead", g.m, a, api.ErrOp, keep(x), step, join(api.NRoot, 1, 0))
		wantApply(t, what+", ahead of it another error", g.m, a, api.ErrKind, keep(x), join(99, 0, 0), step)
	}
	wantApply(t, "too few steps", g.m, a, api.ErrOp)
	wantApply(t, "an empty list", g.m, a, api.ErrOp, []api.Op{}...)
	wantApply(t, "two leaves", g.m, a, api.ErrOp, put(leaf), put(leaf))
	wantApply(t, "three left", g.m, a, api.ErrOp, keep(x), join(api.NError, 0, 0), keep(a))
}

// TestMakesErrors is P1505: what Make does not make ends it with Make's error.
func TestMakesErrors(t *testing.T) {
	g := newGrove(t)
	x := g.leaf(2)
	a := g.over(x)
	for _, step := range []api.Op{join(0, 0, 0), join(api.NLeaf, 0, 0), join(api.NBroken+1, 0, 0), join(-3, 0, 0), join(api.NInner, -1, 0), join(api.NError, 1, 0), join(api.NRoot, 2, 0), join(api.NBroken, -1, 0), join(math.MaxInt, 0, 0), join(api.NInner, math.MinInt, 0)} {
		wantApply(t, "no kind", g.m, a, api.ErrKind, step)
		step.Kids = 1
		wantApply(t, "no kind, over one", g.m, a, api.ErrKind, keep(x), step, api.Op{})
	}
	full := x
	for range 21 {
		full = g.over(full, full)
	}
	wantApply(t, "just room", g.m, full, api.OK, keep(full), join(api.NError, 0, 1))
	wantApply(t, "no room", g.m, full, api.ErrFull, keep(full), keep(full), join(api.NError, 0, 2))
	wantApply(t, "no room, no kind", g.m, full, api.ErrKind, keep(full), keep(full), join(api.NError, 1, 2))
	wantApply(t, "no room, and a wrong step behind", g.m, full, api.ErrFull, keep(full), keep(full), join(api.NError, 0, 2), api.Op{})
	wantApply(t, "no room, and a wrong step ahead", g.m, full, api.ErrOp, keep(full), keep(full), api.Op{}, join(api.NError, 0, 2))
}

// TestOtherStore is P1505 with a store that made neither tree: what is kept is told, but hangs in none of its nodes.
func TestOtherStore(t *testing.T) {
	g, other := newGrove(t), tree.New()
	x := g.leaf(2)
	a := g.over(x)
	if n := wantApply(t, "kept", other, a, api.OK, keep(x)); n != x {
		t.Error("P1505: it is not the same node")
	}
	wantApply(t, "kept below another", other, a, api.ErrKids, keep(x), join(api.NError, 0, 1))
	wantApply(t, "kept below another, no kind", other, a, api.ErrKind, keep(x), join(api.NLeaf, 0, 1))
	wantApply(t, "one of two", other, a, api.ErrKids, put(api.Leaf{}), keep(x), join(api.NError, 0, 2))
	wantApply(t, "kept beside", other, a, api.ErrOp, keep(x), put(api.Leaf{}), join(api.NError, 0, 1))
	n := wantApply(t, "none kept", other, a, api.OK, put(api.Leaf{Len: 2}), join(api.NError, 0, 1))
	if !slices.Equal(bare(n), bare(a)) {
		t.Errorf("P1505: %v", bare(n))
	}
	if up, e := other.Make(api.NRoot, 0, n); up == nil || e != api.OK {
		t.Errorf("P1505: it is not of that store: %v", e)
	}
	if up, e := g.m.Make(api.NRoot, 0, n); up != nil || e != api.ErrKids {
		t.Errorf("P1505: it is of a's store: %v", e)
	}
}

// TestManySteps is P1505's bound: MaxRows steps are done, one more is too many, whatever they are.
func TestManySteps(t *testing.T) {
	g := newGrove(t)
	x := g.leaf(1)
	l := make([]api.Op, api.MaxRows+1)
	for i := range l {
		l[i] = keep(x)
	}
	l[api.MaxRows-1] = join(api.NError, 0, api.MaxRows-1)
	n, e := delta.Apply(g.m, x, l[:api.MaxRows])
	if n == nil || e != api.OK || n.Count() != api.MaxRows-1 || n.Size() != api.MaxRows {
		t.Errorf("P1505: MaxRows steps: %v", e)
	}
	wantApply(t, "one more", g.m, x, api.ErrLong, l...)
	l[0] = api.Op{}
	wantApply(t, "one more, and a wrong one", g.m, x, api.ErrLong, l...)
	wantApply(t, "a wrong one", g.m, x, api.ErrOp, l[:api.MaxRows]...)
}

// plain is a tree that steps should make.
type plain struct {
	old  *tree.Node // what is kept
	step api.Op
	kids []plain
}

// rows are a plain tree's, Ids left out.
func (p plain) rows() []api.Row {
	if p.old != nil {
		return bare(p.old)
	}
	if p.step.Do == api.OLeaf {
		l := p.step.Leaf
		return []api.Row{{Kind: api.NLeaf, N: l.Kind, Skip: l.Skip, Len: l.Len}}
	}
	out := []api.Row{{Kind: p.step.Kind, N: p.step.N, Kids: len(p.kids)}}
	for _, k := range p.kids {
		out = append(out, k.rows()...)
	}
	return out
}

// same says whether a node is a plain tree: the old nodes are the same ones.
func (p plain) same(n *tree.Node) bool {
	if p.old != nil {
		return p.old == n
	}
	for i, k := range p.kids {
		if below, ok := n.Kid(i); !ok || !k.same(below) {
			return false
		}
	}
	return len(p.kids) == n.Count()
}

// applyByWords is P1505, for trees that have room.
func applyByWords(a *tree.Node, l []api.Op) (plain, api.Errno) {
	var row []plain
	for _, s := range l {
		rest := s
		rest.Do = 0
		switch s.Do {
		case api.OKeep:
			rest.Id = 0
			found := plain{}
			for _, n := range a.Walk() {
				if n.Number() == s.Id {
					found.old = n
				}
			}
			if found.old == nil || rest != (api.Op{}) {
				return plain{}, api.ErrOp
			}
			row = append(row, found)
		case api.OLeaf:
			rest.Leaf = api.Leaf{}
			if rest != (api.Op{}) {
				return plain{}, api.ErrOp
			}
			row = append(row, plain{step: s})
		case api.OMake:
			rest.Kind, rest.N, rest.Kids = 0, 0, 0
			if rest != (api.Op{}) || s.Kids < 0 || s.Kids > len(row) {
				return plain{}, api.ErrOp
			}
			if s.Kind < 2 || s.Kind > 5 || s.N < 0 || s.N > 0 && s.Kind != 2 {
				return plain{}, api.ErrKind
			}
			from := len(row) - s.Kids
			row = append(row[:from:from], plain{step: s, kids: slices.Clone(row[from:])})
		default:
			return plain{}, api.ErrOp
		}
	}
	if len(row) != 1 {
		return plain{}, api.ErrOp
	}
	return row[0], api.OK
}

// TestApplyAny is P1505 by its words: scripts of many trees, as they are and with steps that were changed, left out, doubled, or put elsewhere.
func TestApplyAny(t *testing.T) {
	r := rand.New(rand.NewSource(1505))
	met := map[string]int{}
	for range 300 {
		g := newGrove(t)
		var all []*tree.Node
		for range 8 {
			all = append(all, g.m.Leaf(api.Leaf{Kind: r.Intn(3) - 1, Skip: r.Intn(2), Len: r.Intn(3), Reach: r.Intn(3)}))
		}
		for range 20 {
			all = append(all, g.any(r, all))
		}
		for range 60 {
			a, b := all[r.Intn(len(all))], all[r.Intn(len(all))]
			l := spoilt(r, delta.Script(a, b))
			want, e := applyByWords(a, l)
			n, err := delta.Apply(g.m, a, l)
			if err != e || (n != nil) != (e == api.OK) {
				t.Fatalf("P1505: %v: %v, want %v", l, err, e)
			}
			if e == api.OK && (!slices.Equal(bare(n), want.rows()) || !want.same(n)) {
				t.Fatalf("P1505: %v: %v, want %v", l, bare(n), want.rows())
			}
			met[e.Error()]++
		}
	}
	wantMet(t, met, 500, "ok", "op", "kind")
}

// spoilt changes a few steps.
func spoilt(r *rand.Rand, l []api.Op) []api.Op {
	for range r.Intn(3) {
		if len(l) == 0 {
			break
		}
		i, k := r.Intn(len(l)), r.Intn(len(l))
		switch r.Intn(8) {
		case 0:
			l = slices.Delete(l, i, i+1)
		case 1:
			l = slices.Insert(l, i, l[k])
		case 2:
			l[i], l[k] = l[k], l[i]
		case 3:
			l[i].Kids += r.Intn(3) - 1
		case 4, 5:
			last := &l[len(l)-1] // which makes the whole tree, if it makes any
			last.Kind, last.N = last.Kind+r.Intn(2), last.N+r.Intn(3)-1
		default:
			numbers := []*int{&l[i].Do, &l[i].Id, &l[i].Kind, &l[i].N, &l[i].Kids, &l[i].Leaf.Kind, &l[i].Leaf.Skip, &l[i].Leaf.Len, &l[i].Leaf.Reach}
			*numbers[r.Intn(len(numbers))] += r.Intn(3) - 1
		}
	}
	return l
}
