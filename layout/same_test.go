package layout_test

import (
	"math/rand"
	"strings"
	"testing"

	"graft/api"
	"graft/engine"
	"graft/layout"
	"graft/tree"
)

// wantSame holds what Same says of two versions, in both orders.
func wantSame(t *testing.T, what string, a, b version, want bool) {
	t.Helper()
	if layout.Same(a.root, b.root, []byte(a.text), []byte(b.text)) != want || layout.Same(b.root, a.root, []byte(b.text), []byte(a.text)) != want {
		t.Errorf("P1705: %s: %.200q and %.200q: not %v", what, a.text, b.text, want)
	}
}

// TestSameTexts is P1705 of texts of a language.
func TestSameTexts(t *testing.T) {
	e := compiled(t, noted)
	v := func(text string) version { return opened(t, e, text) }
	for _, c := range []struct {
		what, one, two string
		want           bool
	}{
		{"itself", "1+2;", "1+2;", true},
		{"of no bytes", "", "", true},
		{"other trivia", "1+2;", " 1 #a\n+ 2\n; ", true},
		{"other trivia within error nodes", "1 2;", "1\n#b\n2 ;", true},
		{"trivia alone", "", " #c", true},
		{"another byte of a leaf", "1+2;", "1+3;", false},
		{"one byte more", "1+2;", "1+22;", false},
		{"one leaf more", "1+2;", "1+2;;", false},
		{"another kind", "1;", "+;", false},
		{"another kind of the root", "1;", "1", false},
		{"another bad byte", "@;", "?;", false},
		{"the same bad byte", "@;", "  @;", true},
		{"right and wrong", "1;", "1 1;", false},
		{"broken", "1 +", "1+ ", true},
		{"broken, another byte", "1 +", "2+ ", false},
	} {
		wantSame(t, c.what, v(c.one), v(c.two), c.want)
	}
}

// TestSameWidths is P1705: false, if a text has not the Width of its tree.
func TestSameWidths(t *testing.T) {
	e := compiled(t, ten)
	for _, text := range []string{"", " ", "1;", "1 ; ", "1"} {
		v := opened(t, e, text)
		wantSame(t, "as it is", v, v, true)
		for _, other := range []string{text + " ", text + "1", "x" + text, "", text[:len(text)/2], strings.Repeat(" ", api.MaxText+5)} {
			if len(other) != len(text) {
				wantSame(t, "another length", v, version{v.root, other}, false)
				wantSame(t, "another length of both", version{v.root, other}, version{v.root, other}, false)
			}
		}
	}
}

// TestSameNodes is P1705 of trees by hand: all that rows have but trivia counts, and nothing else.
func TestSameNodes(t *testing.T) {
	one, two := tree.New(), tree.New()
	two.Leaf(api.Leaf{})
	leaf := func(s *tree.Store, kind, skip, length, reach int) *tree.Node {
		return s.Leaf(api.Leaf{Kind: kind, Skip: skip, Len: length, Reach: reach})
	}
	over := func(s *tree.Store, kind, n int, kids ...*tree.Node) *tree.Node { return made(t, s, kind, n, kids...) }
	base := version{over(one, api.NInner, 3, leaf(one, 0, 1, 2, 5), over(one, api.NError, 0), leaf(one, 1, 0, 1, 1)), " abc"}
	const big = api.MaxText + 1
	for _, c := range []struct {
		what string
		v    version
		want bool
	}{
		{"the same, of another store", version{over(two, api.NInner, 3, leaf(two, 0, 1, 2, 0), over(two, api.NError, 0), leaf(two, 1, 0, 1, 9)), "zabc"}, true},
		{"other Skips", version{over(two, api.NInner, 3, leaf(two, 0, 0, 2, 0), over(two, api.NError, 0), leaf(two, 1, 3, 1, 9)), "ab   c"}, true},
		{"another N", version{over(two, api.NInner, 4, leaf(two, 0, 1, 2, 0), over(two, api.NError, 0), leaf(two, 1, 0, 1, 9)), " abc"}, false},
		{"another Kind", version{over(two, api.NInner, 3, leaf(two, 0, 1, 2, 0), over(two, api.NRoot, 0), leaf(two, 1, 0, 1, 9)), " abc"}, false},
		{"another Kind of the top", version{over(two, api.NError, 0, leaf(two, 0, 1, 2, 0), over(two, api.NError, 0), leaf(two, 1, 0, 1, 9)), " abc"}, false},
		{"another Kind of a leaf", version{over(two, api.NInner, 3, leaf(two, 0, 1, 2, 0), over(two, api.NError, 0), leaf(two, 2, 0, 1, 9)), " abc"}, false},
		{"fewer Kids", version{over(two, api.NInner, 3, leaf(two, 0, 1, 2, 0), leaf(two, 1, 0, 1, 9)), " abc"}, false},
		{"more Kids", version{over(two, api.NInner, 3, leaf(two, 0, 1, 2, 0), over(two, api.NError, 0), leaf(two, 1, 0, 1, 9), over(two, api.NError, 0)), " abc"}, false},
		{"the same leaves in other nodes", version{over(two, api.NInner, 3, leaf(two, 0, 1, 2, 0), over(two, api.NError, 0, leaf(two, 1, 0, 1, 9))), " abc"}, false},
		{"another byte of the first leaf", version{over(two, api.NInner, 3, leaf(two, 0, 1, 2, 0), over(two, api.NError, 0), leaf(two, 1, 0, 1, 9)), " xbc"}, false},
		{"another byte of the last leaf", version{over(two, api.NInner, 3, leaf(two, 0, 1, 2, 0), over(two, api.NError, 0), leaf(two, 1, 0, 1, 9)), " abx"}, false},
		{"the same bytes, of other leaves", version{over(two, api.NInner, 3, leaf(two, 0, 1, 1, 0), over(two, api.NError, 0), leaf(two, 1, 0, 2, 9)), " abc"}, false},
		{"a Skip that does not count: below 0", version{over(two, api.NInner, 3, leaf(two, 0, -7, 2, 0), over(two, api.NError, 0), leaf(two, 1, 0, 1, 9)), "abc"}, true},
		{"a Skip that does not count: above MaxText", version{over(two, api.NInner, 3, leaf(two, 0, big, 2, 0), over(two, api.NError, 0), leaf(two, 1, big, 1, 9)), "abc"}, true},
		{"a Len that does not count: below 0", version{over(two, api.NInner, 3, leaf(two, 0, 2, -1, 0), over(two, api.NError, 0), leaf(two, 1, 0, 1, 9)), "abc"}, false},
		{"a leaf at the top", version{leaf(two, 3, 1, 3, 0), " abc"}, false},
	} {
		wantSame(t, c.what, base, c.v, c.want)
	}
	none := version{over(one, api.NRoot, 0, leaf(one, 0, 1, -4, 0), leaf(one, api.KEnd, 2, big, 0)), "abc"}
	wantSame(t, "Lens that do not count", none, version{over(two, api.NRoot, 0, leaf(two, 0, 0, 0, 0), leaf(two, api.KEnd, -2, -9, 0)), ""}, true)
	wantSame(t, "Lens that do not count, and one that does", none, version{over(two, api.NRoot, 0, leaf(two, 0, 0, 1, 0), leaf(two, api.KEnd, 0, 0, 0)), "a"}, false)
	wantSame(t, "leaves at the top", version{leaf(one, 7, 1, 1, 1), "ab"}, version{leaf(two, 7, 3, 1, 1), "xyzb"}, true)
	x := over(one, api.NError, 0, leaf(one, 0, 0, 1, 0))
	wantSame(t, "a node at two places, with unlike bytes", version{over(one, api.NRoot, 0, x, x), "ab"}, version{over(one, api.NRoot, 0, x, x), "aa"}, false)
	wantSame(t, "a node at two places, with the same bytes", version{over(one, api.NRoot, 0, x, x), "ab"}, version{over(one, api.NRoot, 0, x, over(one, api.NError, 0, leaf(one, 0, 0, 1, 0))), "ab"}, true)
	long := leaf(one, 0, 0, api.MaxText, 0)
	text := strings.Repeat("y", 3*api.MaxText)
	wantSame(t, "more bytes than a text", version{over(one, api.NRoot, 0, long, long, long), text}, version{over(one, api.NRoot, 0, long, long, long), text}, true)
	wantSame(t, "more bytes than a text, the last unlike", version{over(one, api.NRoot, 0, long, long, long), text}, version{over(one, api.NRoot, 0, long, long, long), text[1:] + "x"}, false)
}

// sameByWords is P1705 by its words alone.
func sameByWords(a, b version) bool {
	p, q := a.root.Rows(), b.root.Rows()
	if len(a.text) != a.root.Width() || len(b.text) != b.root.Width() || len(p) != len(q) {
		return false
	}
	for i := range p {
		if p[i].Kind != q[i].Kind || p[i].N != q[i].N || p[i].Kids != q[i].Kids {
			return false
		}
	}
	one, two := owns(a), owns(b)
	for i := range one {
		if one[i] != two[i] {
			return false
		}
	}
	return true
}

// owns are the own bytes of each leaf.
func owns(v version) (out []string) {
	counted := func(n int) int {
		if n < 0 || n > api.MaxText {
			return 0
		}
		return n
	}
	for at, n := range v.root.Leaves() {
		l, _ := n.Leaf()
		from := at + counted(l.Skip)
		out = append(out, v.text[from:from+counted(l.Len)])
	}
	return out
}

// TestSameByWords is P1705 for many pairs of texts and trees.
func TestSameByWords(t *testing.T) {
	met := map[bool]int{}
	var last version
	eachText(t, 1705, 150, func(r *rand.Rand, e *engine.Engine, v version) {
		s := e.Spec()
		m := newModel(t, s, randomRules(r, s))
		others := []version{v, last, byHand(t, r, s, v.text), changedLeaf(t, r, v)}
		if v.root.Kind() != api.NBroken {
			others = append(others, opened(t, e, respaced(r, m, v)))
		}
		for _, other := range others {
			if other.root == nil {
				continue
			}
			want := sameByWords(v, other)
			met[want]++
			wantSame(t, "by words", v, other, want)
		}
		last = v
	})
	if met[true] < 1000 || met[false] < 1000 {
		t.Error("too few tries:", met)
	}
}

// changedLeaf is a version with one row unlike, or with other trivia.
func changedLeaf(t *testing.T, r *rand.Rand, v version) version {
	t.Helper()
	s := tree.New()
	at := r.Intn(v.root.Size())
	var do func(n *tree.Node) *tree.Node
	do = func(n *tree.Node) *tree.Node {
		at--
		here := at == -1
		if l, ok := n.Leaf(); ok {
			if here {
				l.Kind += r.Intn(2)
				l.Skip, l.Len = l.Skip+l.Len, 0
			}
			return s.Leaf(l)
		}
		var kids []*tree.Node
		for i := range n.Count() {
			kid, _ := n.Kid(i)
			kids = append(kids, do(kid))
		}
		kind, number := n.Kind(), n.N()
		if here && kind == api.NInner {
			number++
		} else if here {
			kids = append(kids, made(t, s, api.NError, 0))
		}
		return made(t, s, kind, number, kids...)
	}
	return version{do(v.root), v.text}
}
