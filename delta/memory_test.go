package delta_test

import (
	"bytes"
	"slices"
	"testing"

	"graft/api"
	"graft/delta"
	"graft/tree"
)

// spoil writes over a list with all its room.
func spoil[T any](l []T, with T) {
	l = l[:cap(l)]
	for i := range l {
		l[i] = with
	}
}

// pairs are trees of one store that have much in common.
func pairs(g grove) [][2]*tree.Node {
	x, y, z, w := g.leaf(2), g.leaf(1), g.leaf(0), g.leaf(3)
	old := g.node(api.NInner, 3, x, g.over(), y)
	a := g.node(api.NRoot, 0, old, z)
	var out [][2]*tree.Node
	for _, b := range []*tree.Node{a, old, x, g.over(old, w, z, w, old), g.over(y, g.over(x, z)), g.node(api.NBroken, 0, w, x, w, y, w), g.over()} {
		out = append(out, [2]*tree.Node{a, b}, [2]*tree.Node{b, a})
	}
	return out
}

// TestListsAreOwn is P2: hunks and steps are new memory each time, their spare room too: to write over them, and to append to them, changes nothing of what is told behind that.
func TestListsAreOwn(t *testing.T) {
	g := newGrove(t)
	for _, p := range pairs(g) {
		a, b := p[0], p[1]
		hunks, steps := slices.Clone(delta.Leaves(a, b)), slices.Clone(delta.Script(a, b))
		firstHunks, secondHunks := delta.Leaves(a, b), delta.Leaves(a, b)
		firstSteps, secondSteps := delta.Script(a, b), delta.Script(a, b)
		seq := delta.Ranges(a, b)
		spans := slices.Collect(seq)
		spoil(firstHunks, api.Hunk{From: -9})
		spoil(append(firstHunks, api.Hunk{Upto: 9}), api.Hunk{From: 7})
		spoil(firstSteps, api.Op{Do: 9})
		spoil(append(firstSteps, api.Op{Id: 9}), api.Op{Do: 8})
		if !slices.Equal(secondHunks, hunks) || !slices.Equal(delta.Leaves(a, b), hunks) {
			t.Error("P2: hunks hang on other hunks")
		}
		if !slices.Equal(secondSteps, steps) || !slices.Equal(delta.Script(a, b), steps) {
			t.Error("P2: steps hang on other steps")
		}
		if !slices.Equal(slices.Collect(seq), spans) {
			t.Error("P2: spans hang on hunks")
		}
		holds(t, g.m, a, b)
	}
}

// TestEditsStay is P2: edits, their bytes, and their spare room stay as they are, whether they are taken or refused.
func TestEditsStay(t *testing.T) {
	ins := append(make([]byte, 0, 8), "abc"...)
	whole := ins[:8]
	copy(whole[3:], "vwxyz")
	edits := append(make([]api.Edit, 0, 6), api.Edit{At: 4, Del: 2, Ins: ins}, api.Edit{Ins: ins[:1]}, api.Edit{At: 9, Ins: ins[1:]})
	spare := append(edits, edit(7, 7, "spare"), api.Edit{At: -5})
	for _, l := range [][]api.Edit{edits, spare} {
		for _, place := range []int{0, 4, 5, 9, api.MaxText, -1} {
			for _, bias := range []int{-1, 0} {
				first, e := delta.Move(place, bias, l)
				again, e2 := delta.Move(place, bias, l)
				if first != again || e != e2 {
					t.Errorf("P3: Move(%d, %d) is %d %v, and then %d %v", place, bias, first, e, again, e2)
				}
			}
		}
	}
	want := []api.Edit{edit(4, 2, "abc"), edit(0, 0, "a"), edit(9, 0, "bc"), edit(7, 7, "spare"), {At: -5}}
	same := func(a, b api.Edit) bool { return a.At == b.At && a.Del == b.Del && bytes.Equal(a.Ins, b.Ins) }
	if !slices.EqualFunc(spare, want, same) || string(whole) != "abcvwxyz" {
		t.Errorf("P2: the edits are %v, their bytes %q", spare, whole)
	}
}

// TestEditsNotKept is P2 and P3: edits that are written over change what is told of them alone.
func TestEditsNotKept(t *testing.T) {
	l := []api.Edit{edit(4, 2, "abc")}
	wantMove(t, 9, 0, l, 10, api.OK)
	spoil(l[0].Ins, 'z')
	wantMove(t, 9, 0, l, 10, api.OK)
	l[0] = edit(0, 0, "x")
	wantMove(t, 9, 0, l, 10, api.OK)
	l[0] = edit(0, 3, "")
	wantMove(t, 9, 0, l, 6, api.OK)
	wantMove(t, 9, 0, nil, 9, api.OK)
}

// TestStepsStay is P2: steps that are handed in, and their spare room, stay as they are, whether they are done or refused; the tree does not hang on them.
func TestStepsStay(t *testing.T) {
	g := newGrove(t)
	for _, p := range pairs(g) {
		a, b := p[0], p[1]
		right := delta.Script(a, b)
		for _, l := range [][]api.Op{right, append(slices.Clone(right), api.Op{}), append(slices.Clone(right), join(99, 0, 1)), right[:len(right)-1]} {
			steps := append(slices.Clone(l), api.Op{Do: 7}, api.Op{Do: api.OMake, Kind: api.NError})
			was := slices.Clone(steps)
			n, e := delta.Apply(g.m, a, steps[:len(l)])
			if !slices.Equal(steps, was) {
				t.Errorf("P2: steps were changed: %v", steps)
			}
			if e != api.OK {
				continue
			}
			rows := n.Rows()
			spoil(steps, api.Op{Do: 9, Leaf: api.Leaf{Len: 99}})
			if !slices.Equal(n.Rows(), rows) {
				t.Error("P2: the tree hangs on the steps")
			}
		}
	}
}

// TestApplyAgain is P3 and P1506: the same steps make the same tree each time, of other nodes, whatever was refused in between; and no tree changes.
func TestApplyAgain(t *testing.T) {
	g := newGrove(t)
	for _, p := range pairs(g) {
		a, b := p[0], p[1]
		l := delta.Script(a, b)
		wasA, wasB := a.Rows(), b.Rows()
		first, _ := delta.Apply(g.m, a, l)
		rows := first.Rows()
		for _, wrong := range [][]api.Op{nil, {{}}, append(slices.Clone(l), l...), append(slices.Clone(l), join(api.NLeaf, 0, 1))} {
			if n, e := delta.Apply(g.m, a, wrong); n != nil || e == api.OK {
				t.Errorf("P1505: %v is done", wrong)
			}
			again, e := delta.Apply(g.m, a, l)
			if e != api.OK || !slices.Equal(bare(again), bare(first)) {
				t.Errorf("P3: %v", e)
			}
			if old := numbers(a)[b.Number()]; old != (again == first) {
				t.Error("P1506: a new node is the same as before, or an old one is not")
			}
		}
		if !slices.Equal(a.Rows(), wasA) || !slices.Equal(b.Rows(), wasB) || !slices.Equal(first.Rows(), rows) {
			t.Error("P2: a tree has changed")
		}
	}
}

// TestRangesStay is P2: a sequence tells the same whatever is made out of the trees in between.
func TestRangesStay(t *testing.T) {
	g := newGrove(t)
	a, b, want := combs(g, 4)
	seq := delta.Ranges(a, b)
	for range 3 {
		n, _ := delta.Apply(g.m, b, delta.Script(b, a))
		holds(t, g.m, n, b)
		holds(t, g.m, b, g.over(n, b))
		if got := slices.Collect(seq); !slices.Equal(got, want) {
			t.Errorf("P2: %v, want %v", got, want)
		}
	}
}
