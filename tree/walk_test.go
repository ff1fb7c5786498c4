package tree_test

import (
	"iter"
	"slices"
	"sync"
	"testing"

	"graft/api"
	"graft/tree"
)

// gone is all that an iterator tells.
func gone(each iter.Seq2[int, *tree.Node]) []step {
	var l []step
	for at, n := range each {
		l = append(l, step{at, n})
	}
	return l
}

// both are the two iterators of a node, by their names.
func both(n *tree.Node) map[string]iter.Seq2[int, *tree.Node] {
	return map[string]iter.Seq2[int, *tree.Node]{"Leaves": n.Leaves(), "Walk": n.Walk()}
}

// TestLeftEarly is P1007: left behind each step, then nothing more is told; and gone over again, all is told again.
func TestLeftEarly(t *testing.T) {
	_, a, _, x, y, z := sample(t)
	for _, n := range []*tree.Node{a, x, y, z} {
		for what, each := range both(n) {
			want := gone(each)
			for stop := range want {
				var got []step
				each(func(at int, n *tree.Node) bool {
					got = append(got, step{at, n})
					return len(got) <= stop
				})
				if !slices.Equal(got, want[:stop+1]) {
					t.Errorf("P1007: %s, left behind %d, told %v", what, stop+1, got)
				}
			}
			if got := gone(each); !slices.Equal(got, want) {
				t.Errorf("P1007: %s, gone over again, told %v, want %v", what, got, want)
			}
		}
	}
}

// TestWithin is P1007: an iterator ranged over within itself, and within the other, left early or not.
func TestWithin(t *testing.T) {
	_, _, _, _, _, z := sample(t)
	for what, outer := range both(z) {
		for with, inner := range both(z) {
			want, all := gone(outer), gone(inner)
			for stop := range len(all) + 1 {
				var got []step
				for at, n := range outer {
					got = append(got, step{at, n})
					var within []step
					for at, n := range inner {
						if len(within) == stop {
							break
						}
						within = append(within, step{at, n})
					}
					if !slices.Equal(within, all[:stop]) {
						t.Fatalf("P1007: %s within %s told %v", with, what, within)
					}
				}
				if !slices.Equal(got, want) {
					t.Errorf("P1007: %s with %s within told %v", what, with, got)
				}
			}
		}
	}
}

// TestPulled is P1007: two walks of one iterator, a step of the one and a step of the other in turns, and one left open.
func TestPulled(t *testing.T) {
	_, _, _, _, _, z := sample(t)
	for what, each := range both(z) {
		want := gone(each)
		one, stopOne := iter.Pull2(each)
		two, stopTwo := iter.Pull2(each)
		for i, w := range want {
			at, n, ok := one()
			if !ok || (step{at, n}) != w {
				t.Errorf("P1007: %s: step %d of the first is %d", what, i, at)
			}
			if i%2 == 0 {
				continue
			}
			if at, n, ok := two(); !ok || (step{at, n}) != want[i/2] {
				t.Errorf("P1007: %s: step %d of the second is %d", what, i/2, at)
			}
		}
		if _, n, ok := one(); ok || n != nil {
			t.Errorf("P1007: %s goes on behind its end", what)
		}
		stopOne()
		stopTwo()
	}
}

// TestWalksWhileMaking is P2: what is made out of a tree while it is gone through is not seen.
func TestWalksWhileMaking(t *testing.T) {
	s, _, _, _, _, z := sample(t)
	for what, each := range both(z) {
		want := gone(each)
		var got []step
		for at, n := range each {
			got = append(got, step{at, n})
			node(t, s, api.NInner, 1, n, z, leaf(t, s, api.Leaf{Len: 9}))
		}
		if !slices.Equal(got, want) {
			t.Errorf("P2: %s told %v", what, got)
		}
	}
}

// TestManyAtOnce is P2: a tree never changes, so that many may go through it, and move in it, at one time.
func TestManyAtOnce(t *testing.T) {
	_, _, _, _, _, z := sample(t)
	walk, leaves := z.Walk(), z.Leaves()
	all, some, rows := gone(walk), gone(leaves), z.Rows()
	var group sync.WaitGroup
	for range 8 {
		group.Go(func() {
			c := z.Cursor()
			for range 50 {
				if !slices.Equal(gone(walk), all) || !slices.Equal(gone(leaves), some) || !slices.Equal(z.Rows(), rows) {
					t.Error("P2: a tree has changed")
				}
				for at := range z.Width() {
					if !c.To(at) || c.Offset() > at {
						t.Errorf("P1012: To(%d) stands at %d", at, c.Offset())
					}
				}
			}
		})
	}
	group.Wait()
}
