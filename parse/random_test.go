package parse_test

import (
	"math/rand"
	"slices"
	"testing"

	"graft/api"
	"graft/parse"
	"graft/table"
	"graft/tree"
)

// TestBuild is P1101 with P12 and P13: trees and mishaps of many texts of many languages, held against a maker that goes by the document's words alone; and what follows, P1108 to P1111.
func TestBuild(t *testing.T) {
	met := map[string]int{}
	sound(t, 1101, 2500, func(r *rand.Rand, m *model, x *table.Table) {
		store := tree.New()
		seen := map[int]bool{}
		for range 12 {
			leaves := m.text(r, 4+r.Intn(60))
			n, mishaps := build(t, x, store, leaves)
			want, told := m.tree(leaves)
			if !slices.Equal(bare(n), want.rows()) {
				t.Fatalf("P13: %v: %v, not %v", leaves, bare(n), want.rows())
			}
			if !slices.Equal(mishaps, told) {
				t.Fatalf("P1101: %v: %v, not %v", leaves, mishaps, told)
			}
			for _, row := range n.Rows() {
				if seen[row.Id] {
					t.Fatalf("P1101: %v: the node %d stands in it, or in another tree, already", leaves, row.Id)
				}
				seen[row.Id] = true
			}
			wantDerived(t, m, n, leaves)
			wantFirst(t, m, leaves, mishaps)
			wantRising(t, n, leaves, mishaps)
			wantDriven(t, x, store, leaves, n)
			count(met, n, mishaps)
		}
	})
	if met["right"] < 3000 || met["broken"] < 3000 || met["mended"] < 3000 || met["several"] < 1000 || met["nested"] < 500 || met["far"] < 1000 || met["nothing"] < 1000 || met["deep"] < 500 {
		t.Errorf("too few texts: %v", met)
	}
}

// count keeps in mind what kinds of texts were met.
func count(met map[string]int, n *tree.Node, mishaps []api.Mishap) {
	switch {
	case len(mishaps) == 0:
		met["right"]++
	case n.Kind() == api.NBroken:
		met["broken"]++
	default:
		met["mended"]++
	}
	if n.Kind() == api.NRoot && len(mishaps) > 1 {
		met["several"]++
	}
	for _, x := range mishaps {
		if x.On > x.Leaf+3 {
			met["far"]++
		}
		if x.Keep > 8 {
			met["deep"]++
		}
	}
	for _, below := range n.Walk() {
		if below.Kind() != api.NError {
			continue
		}
		if below.Count() == 0 {
			met["nothing"]++
		}
		for i := range below.Count() {
			if k, _ := below.Kid(i); k.Kind() == api.NInner && k.Failed() {
				met["nested"]++
			}
		}
	}
}

// wantDerived is P1109: the tree is a derivation over the leaves that were handed in.
func wantDerived(t *testing.T, m *model, n *tree.Node, leaves []api.Leaf) {
	t.Helper()
	var got []api.Leaf
	for _, leaf := range n.Leaves() {
		l, _ := leaf.Leaf()
		got = append(got, l)
	}
	if !slices.Equal(got, leaves) {
		t.Fatalf("P1109: the leaves %v, not %v", got, leaves)
	}
	if n.Kind() == api.NBroken {
		return
	}
	last := m.endAt()
	for _, below := range n.Walk() {
		var kids []*plain
		for i := range below.Count() {
			k, _ := below.Kid(i)
			kids = append(kids, &plain{kind: k.Kind(), n: k.N()})
		}
		var want []int
		switch below.Kind() {
		case api.NRoot:
			want = []int{nameOf(m.s.Start), last}
			kids[len(kids)-1].n = last
		case api.NInner:
			want = m.right(below.N())
		default:
			continue
		}
		if got := m.symbols(kids); !slices.Equal(got, want) {
			t.Fatalf("P1109: over %v, not %v", got, want)
		}
	}
}

// wantFirst is P1110.
func wantFirst(t *testing.T, m *model, leaves []api.Leaf, mishaps []api.Mishap) {
	t.Helper()
	first := -1
	if len(mishaps) > 0 {
		first = mishaps[0].Leaf
	}
	if want := m.firstWrong(leaves); first != want {
		t.Fatalf("P1110: %v: the first mishap at %d, not %d", leaves, first, want)
	}
}

// wantRising is P1111.
func wantRising(t *testing.T, n *tree.Node, leaves []api.Leaf, mishaps []api.Mishap) {
	t.Helper()
	leaf, on := -1, 0
	for i, x := range mishaps {
		broken := i == len(mishaps)-1 && n.Kind() == api.NBroken
		if x.Leaf <= leaf || x.Leaf < on || x.Leaf >= len(leaves) || x.Keep < 0 {
			t.Fatalf("P1111: %v", mishaps)
		}
		if broken && (x.On != -1 || x.Keep != 0) || !broken && (x.On < x.Leaf || x.On >= len(leaves)) {
			t.Fatalf("P1111: %v", mishaps)
		}
		leaf, on = x.Leaf, x.On
	}
	nodes := 0
	for _, below := range n.Walk() {
		if below.Kind() == api.NError {
			nodes++
		}
	}
	if n.Kind() != api.NBroken && nodes != len(mishaps) {
		t.Fatalf("P1111: %d error nodes, %d mishaps", nodes, len(mishaps))
	}
}

// wantDriven is P1108: a machine, leaf by leaf, makes the tree that Build makes, of the leaves' own nodes.
func wantDriven(t *testing.T, x *table.Table, store *tree.Store, leaves []api.Leaf, want *tree.Node) {
	t.Helper()
	p := parse.New(x, store)
	l := nodes(store, leaves)
	root, ok := drive(t, p, l, 0)
	if ok != (want.Kind() == api.NRoot) {
		t.Fatalf("P1108: %v: %v, but Build tells the kind %d", leaves, ok, want.Kind())
	}
	if !ok {
		return
	}
	if !slices.Equal(bare(root), bare(want)) {
		t.Fatalf("P1108: %v: %v, not %v", leaves, bare(root), bare(want))
	}
	i := 0
	for _, leaf := range root.Leaves() {
		if leaf != l[i] {
			t.Fatalf("P1108: the leaf %d is another node", i)
		}
		i++
	}
	if p.Depth() != 0 || p.State() != 0 {
		t.Fatalf("P1107: depth %d, state %d behind the root", p.Depth(), p.State())
	}
}

// drive takes leaves from a place on, by Put, Mend and End; false, if an error can't be mended.
func drive(t *testing.T, p *parse.Machine, l []*tree.Node, i int) (*tree.Node, bool) {
	t.Helper()
	for {
		leaf, _ := l[i].Leaf()
		if !p.Goes(leaf.Kind) {
			keep, on, ok := p.Wrong(l, i)
			got, mended := p.Mend(l, i)
			if got != on || ok != mended || !ok && keep+on != 0 {
				t.Fatalf("P1106: Wrong tells %d %d %v, Mend %d %v", keep, on, ok, got, mended)
			}
			if !ok {
				return nil, false
			}
			i = on
			if leaf, _ = l[i].Leaf(); !p.Goes(leaf.Kind) {
				t.Fatal("P13: the leaf with which it goes on does not")
			}
		}
		if leaf.Kind == api.KEnd {
			root, e := p.End(l[i])
			if e != api.OK {
				t.Fatalf("P1107: %v", e)
			}
			return root, true
		}
		if e := p.Put(l[i]); e != api.OK {
			t.Fatalf("P1104: %v", e)
		}
		i++
	}
}
