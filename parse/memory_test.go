package parse_test

import (
	"slices"
	"testing"

	"graft/api"
	"graft/parse"
	"graft/tree"
)

// roomy is a list's copy with spare room behind it, in which something stands.
func roomy[T any](l []T, with T) []T { return append(slices.Clone(l), with, with, with)[:len(l)] }

// whole is a list with all its room.
func whole[T any](l []T) []T { return l[:cap(l)] }

// spoil writes over a list with all its room.
func spoil[T any](l []T, with T) {
	for i := range whole(l) {
		whole(l)[i] = with
	}
}

const threeErrors = "1 1;+;1;#1;"

// TestLeavesStay is P2: the leaves that are handed in to Build, and their spare room, stay as they are, and the tree does not hang on them.
func TestLeavesStay(t *testing.T) {
	x := made(t, ten)
	for _, text := range []string{"", "1;", "1+1;1;", threeErrors, "1", ";1+", "###"} {
		odd := api.Leaf{Kind: 99, Skip: -7}
		leaves := roomy(row("1+;", text), odd)
		before := slices.Clone(whole(leaves))
		n, mishaps := build(t, x, tree.New(), leaves)
		if !slices.Equal(whole(leaves), before) {
			t.Errorf("P2: %q: left %v", text, whole(leaves))
		}
		want, told := bare(n), slices.Clone(mishaps)
		spoil(leaves, odd)
		var got []api.Leaf
		for _, leaf := range n.Leaves() {
			l, _ := leaf.Leaf()
			got = append(got, l)
		}
		if !slices.Equal(bare(n), want) || !slices.Equal(got, row("1+;", text)) || !slices.Equal(mishaps, told) {
			t.Errorf("P2: %q: the tree hangs on the leaves", text)
		}
	}
}

// TestMishapsApart is P2: mishaps are the caller's own.
func TestMishapsApart(t *testing.T) {
	x, m := made(t, ten), tree.New()
	leaves := row("1+;", threeErrors)
	_, first := build(t, x, m, leaves)
	want := slices.Clone(first)
	_, second := build(t, x, m, leaves)
	spoil(first, api.Mishap{Leaf: -5, Keep: -5, On: -5})
	_, third := build(t, x, m, leaves)
	if len(want) != 3 || !slices.Equal(second, want) || !slices.Equal(third, want) {
		t.Errorf("P2: %v %v, not %v", second, third, want)
	}
}

// TestListsStay is P2: the lists that are handed in to Wrong and Mend, and their spare room, stay as they are, and are not kept: neither the stack nor the tree hangs on them.
func TestListsStay(t *testing.T) {
	x, m := made(t, ten), tree.New()
	p := parse.New(x, m)
	l := nodes(m, row("1+;", "1 1 + 1 1;1;"))
	odd := m.Leaf(api.Leaf{Kind: 2, Len: 9})
	gives(t, p.Put(l[0]), api.OK)
	for _, mends := range []bool{false, true} {
		list := roomy(l, odd)
		before := slices.Clone(whole(list))
		on, ok := 0, false
		if mends {
			on, ok = p.Mend(list, 1)
		} else {
			_, on, ok = p.Wrong(list, 1)
		}
		if on != 5 || !ok || !slices.Equal(whole(list), before) {
			t.Errorf("P2: %d %v, left %v", on, ok, whole(list))
		}
		spoil(list, odd)
	}
	root, ok := drive(t, p, l, 5)
	if !ok || shape("1+;", root) != "R(0(0(1()3(X(11+11);))2(5(6(1));))$)" {
		t.Fatalf("P2: %v %s", ok, shape("1+;", root))
	}
	for i, want := range l[:5] {
		if down(root, 0, 0, 1, 0, i) != want {
			t.Errorf("P2: child %d of the error node is another one", i)
		}
	}
}

// TestTreesStay is P2 and P1107: what a machine does later changes nothing of the trees that it has made, and of those that it has taken.
func TestTreesStay(t *testing.T) {
	x, m := made(t, ten), tree.New()
	p := parse.New(x, m)
	var made []*tree.Node
	var rows [][]api.Row
	for _, text := range []string{"1;1;1;", "1+1+1;", "", "1 1;", ";;;;", "1;"} {
		root, ok := drive(t, p, nodes(m, row("1+;", text)), 0)
		if !ok {
			t.Fatalf("P1108: %q", text)
		}
		made, rows = append(made, root), append(rows, root.Rows())
		for i, n := range made {
			if !slices.Equal(n.Rows(), rows[i]) {
				t.Errorf("P2: %q has changed tree %d", text, i)
			}
		}
	}
}

// TestMachinesApart is P2: machines of one store, and of one table, do not see one another, nor what Build makes in between.
func TestMachinesApart(t *testing.T) {
	x, m := made(t, ten), tree.New()
	texts := []string{"1;1+1;", "1 1;;1;", "1+;1", "", "1+1+1;1;"}
	var machines []*parse.Machine
	var lists [][]*tree.Node
	var places []int
	for _, text := range texts {
		machines, lists, places = append(machines, parse.New(x, m)), append(lists, nodes(m, row("1+;", text))), append(places, 0)
	}
	for left := len(texts); left > 0; {
		for k, p := range machines {
			i, l := places[k], lists[k]
			switch {
			case i < 0:
			case i == len(l)-1 && p.Goes(api.KEnd):
				root, e := p.End(l[i])
				want, _ := build(t, x, m, row("1+;", texts[k]))
				if e != api.OK || !slices.Equal(bare(root), bare(want)) {
					t.Errorf("P2: %q: %v %s", texts[k], e, shape("1+;", root))
				}
				places[k], left = -1, left-1
			case i < len(l)-1 && p.Goes(l[i].N()):
				gives(t, p.Put(l[i]), api.OK)
				places[k]++
			default:
				on, ok := p.Mend(l, i)
				if places[k] = on; !ok {
					places[k], left = -1, left-1
				}
			}
		}
	}
}
