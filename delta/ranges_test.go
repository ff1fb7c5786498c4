package delta_test

import (
	"slices"
	"testing"

	"graft/api"
	"graft/delta"
	"graft/tree"
)

// TestWithoutBytes is P1502: hunks whose leaves have no bytes have no span; leaves without bytes beside others change none.
func TestWithoutBytes(t *testing.T) {
	g := newGrove(t)
	x, y, none, other, some := g.leaf(2), g.leaf(0), g.leaf(0), g.m.Leaf(api.Leaf{Skip: -4, Len: api.MaxText + 1}), g.m.Leaf(api.Leaf{Skip: 1})
	a := g.over(x, y)
	wantLeaves(t, "no bytes at all", a, g.over(none, x, other, y, none), []api.Hunk{{Upto: 1}, {From: 1, To: 1, Into: 2, Upto: 3}, {From: 2, To: 2, Into: 4, Upto: 5}}, nil)
	wantLeaves(t, "first and last without", a, g.over(x, none, some, other, y), []api.Hunk{{From: 1, To: 1, Into: 1, Upto: 4}}, []api.Span{{From: 2, To: 3}})
	wantLeaves(t, "trivia alone", a, g.over(some, x, y), []api.Hunk{{Upto: 1}}, []api.Span{{To: 1}})
	wantLeaves(t, "two spans at one place", a, g.over(x, some, y, g.leaf(3)), []api.Hunk{{From: 1, To: 1, Into: 1, Upto: 2}, {From: 2, To: 2, Into: 3, Upto: 4}}, []api.Span{{From: 2, To: 3}, {From: 3, To: 6}})
	wantLeaves(t, "all new, without", a, g.over(none, other), []api.Hunk{{To: 2, Upto: 2}}, nil)
}

// combs are two trees with so many leaves in common, and one of b's own, of a byte, behind each of them.
func combs(g grove, teeth int) (a, b *tree.Node, want []api.Span) {
	var inA, inB []*tree.Node
	for i := range teeth {
		x := g.leaf(2)
		inA, inB = append(inA, x), append(inB, x, g.leaf(1))
		want = append(want, api.Span{From: 3*i + 2, To: 3*i + 3})
	}
	return g.over(inA...), g.over(inB...), want
}

// TestLeftEarly is P1502: a sequence that is left at each of its places tells all up to there, and all when it is gone over again.
func TestLeftEarly(t *testing.T) {
	a, b, want := combs(newGrove(t), 7)
	seq := delta.Ranges(a, b)
	for stop := range want {
		var got []api.Span
		for s := range seq {
			got = append(got, s)
			if len(got) == stop+1 {
				break
			}
		}
		if !slices.Equal(got, want[:stop+1]) {
			t.Errorf("P1502: left at %d: %v", stop, got)
		}
		if got := slices.Collect(seq); !slices.Equal(got, want) {
			t.Errorf("P1502: again, when it was left at %d: %v", stop, got)
		}
	}
}

// TestWithinItself is P1502: a sequence that is gone over within itself, whole and left early.
func TestWithinItself(t *testing.T) {
	a, b, want := combs(newGrove(t), 5)
	seq := delta.Ranges(a, b)
	var outer []api.Span
	for s := range seq {
		outer = append(outer, s)
		if inner := slices.Collect(seq); !slices.Equal(inner, want) {
			t.Errorf("P1502: within itself: %v", inner)
		}
		for range seq {
			break
		}
		for range delta.Ranges(b, a) {
			t.Error("P1502: a has no bytes that b has not")
		}
	}
	if !slices.Equal(outer, want) {
		t.Errorf("P1502: around itself: %v", outer)
	}
}

// TestNotTold is P1502: what is not asked for any more is not told; the function that asks is not called again when it has said no.
func TestNotTold(t *testing.T) {
	a, b, want := combs(newGrove(t), 6)
	for stop := 1; stop <= len(want); stop++ {
		calls := 0
		delta.Ranges(a, b)(func(api.Span) bool {
			calls++
			return calls < stop
		})
		if calls != stop {
			t.Errorf("P1502: asked %d times, want %d", calls, stop)
		}
	}
}
