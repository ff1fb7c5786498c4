package query_test

import (
	"iter"
	"math/rand"
	"slices"
	"testing"

	"graft/api"
	"graft/tree"
)

// sequence is a query's, of a text.
func sequence(t testing.TB, s api.Spec, n *tree.Node, text, ask string) iter.Seq[api.Match] {
	t.Helper()
	seq, e := parsed(t, s, ask).Match(n, []byte(text))
	if e != api.OK {
		t.Fatal(e)
	}
	return seq
}

// few are the first findings of a sequence, which is left behind them.
func few(seq iter.Seq[api.Match], count int) (out []api.Match) {
	if count == 0 {
		return nil
	}
	for m := range seq {
		if out = append(out, m); len(out) == count {
			break
		}
	}
	return out
}

// TestRanges is P1405: sequences that are left early, gone over again, and within themselves.
func TestRanges(t *testing.T) {
	e := compiled(t, ten)
	const text = "1+2;3;#;4 5+;6;"
	n := planted(t, e, text)
	for _, ask := range []string{"_ @x", "num @x", "(_ ~ num @x ~ _ @y)", "(_ _ @x) @y (_ . _ @x .) _", `(L ~ (S ~ num - "6" @x) @y)`, `(S) = "nowhere"`, "(_ ~ (_ ~ _ @a ~ _ @b) @c)"} {
		seq := sequence(t, e.Spec(), n, text, ask)
		all := slices.Collect(seq)
		for count := range len(all) + 2 {
			if got := few(seq, count); !slices.EqualFunc(got, all[:min(count, len(all))], same) {
				t.Fatalf("P1405: %s left behind %d: %s", ask, count, told(got))
			}
		}
		if got := slices.Collect(seq); !slices.EqualFunc(got, all, same) {
			t.Fatalf("P1405: %s gone over again: %s", ask, told(got))
		}
		outer := 0
		for m := range seq {
			if !same(m, all[outer]) {
				t.Fatalf("P1405: %s: outer finding %d: %v", ask, outer, m)
			}
			outer++
			if outer > 40 && outer%37 > 0 {
				continue
			}
			inner := 0
			for m := range seq {
				if !same(m, all[inner]) {
					t.Fatalf("P1405: %s: inner finding %d of %d: %v", ask, inner, outer, m)
				}
				if inner++; inner == outer {
					break
				}
			}
		}
		if outer != len(all) {
			t.Fatalf("P1405: %s: %d findings, not %d", ask, outer, len(all))
		}
	}
}

// TestPulled is P1405: sequences that are taken one by one, in turns, do not see one another.
func TestPulled(t *testing.T) {
	e := compiled(t, ten)
	const text = "1+2;3;#;"
	n := planted(t, e, text)
	seq := sequence(t, e.Spec(), n, text, "(_ ~ _ @x ~ _ @y) @z num @x")
	all := slices.Collect(seq)
	r := rand.New(rand.NewSource(1406))
	var next [4]func() (api.Match, bool)
	var at [4]int
	for i := range next {
		var stop func()
		next[i], stop = iter.Pull(seq)
		defer stop()
	}
	for range 3 * len(all) {
		i := r.Intn(len(next))
		m, ok := next[i]()
		if ok != (at[i] < len(all)) || ok && !same(m, all[at[i]]) {
			t.Fatalf("P1405: finding %d: %v %v", at[i], m, ok)
		}
		at[i]++
	}
}

// TestEachNode is P1408: `_ @x` finds each node once, in the order of Walk.
func TestEachNode(t *testing.T) {
	r := rand.New(rand.NewSource(1408))
	for range 300 {
		n := wild(r, 40)
		text := make([]byte, n.Width())
		l := findings(t, parsed(t, api.Spec{}, "_ @x"), n, string(text), most)
		i := 0
		c := n.Cursor()
		for at, below := range n.Walk() {
			x := l[i].Caps[0]
			for c.Up() {
			}
			for _, k := range x.Path {
				c.Down(k)
			}
			if c.Node() != below || c.Offset() != at || x.To != at+below.Width() || x.From < at || x.From > x.To {
				t.Fatalf("P1408: node %d: %+v", i, x)
			}
			i++
		}
		if i != len(l) {
			t.Fatalf("P1408: %d findings for %d nodes", len(l), i)
		}
	}
}

// TestHasBelow is P1408: `(_ ~ p)` fits a node that is no leaf just if one of its children is, or has below it, a node that p fits.
func TestHasBelow(t *testing.T) {
	r := rand.New(rand.NewSource(1409))
	fits := 0
	for i := range 600 {
		s := readSpec(t, languages()[i%len(languages())])
		n := wild(r, 30)
		text := make([]byte, n.Width())
		root := places(n, nil, 0)
		g := &guesser{r: r, s: s, text: string(text), root: root}
		p := g.like(root.walk[r.Intn(len(root.walk))], 3)
		p.word = "zz"
		var at [][]int
		for _, m := range findings(t, parsed(t, s, p.print()), n, string(text), most) {
			at = append(at, m.Caps[0].Path)
		}
		var want, got [][]int
		for _, x := range root.walk {
			if slices.ContainsFunc(at, func(path []int) bool {
				return len(path) > len(x.path) && slices.Equal(path[:len(x.path)], x.path)
			}) {
				want = append(want, x.path)
			}
		}
		for _, m := range findings(t, parsed(t, s, "(_ ~ "+p.print()+") @top"), n, string(text), most) {
			if path := m.Caps[0].Path; len(got) == 0 || !slices.Equal(got[len(got)-1], path) {
				got = append(got, path)
			}
		}
		if !slices.EqualFunc(got, want, slices.Equal) {
			t.Fatalf("P1408: %s: %v, not %v", p.print(), got, want)
		}
		fits += len(want)
	}
	if fits < 300 {
		t.Errorf("too few: %d", fits)
	}
}

// TestIdsLeftOut is P1407: what is found hangs on the rows, Ids left out, and the text alone: not on which nodes are the same, nor on how the tree came to be.
func TestIdsLeftOut(t *testing.T) {
	r := rand.New(rand.NewSource(1410))
	for i := range 300 {
		s := readSpec(t, languages()[i%len(languages())])
		n := wild(r, 30)
		text := make([]byte, n.Width())
		for k := range text {
			text[k] = "ab;"[r.Intn(3)]
		}
		other := copied(tree.New(), n)
		g := &guesser{r: r, s: s, text: string(text), root: places(n, nil, 0)}
		for range 5 {
			q := parsed(t, s, printAll(g.query()))
			if a, b := findings(t, q, n, string(text), enough), findings(t, q, other, string(text), enough); !slices.EqualFunc(a, b, same) {
				t.Fatalf("P1407: %s: %s and %s", q.Print(), told(a), told(b))
			}
		}
	}
	e := compiled(t, ten)
	d, _ := e.Open([]byte("1;2;3+4;"))
	d.Edit(0, 4, 0, []byte("#;"))
	edited, _ := d.Root(1)
	fresh := planted(t, e, "1;2;#;3+4;")
	for _, ask := range []string{"_ @x", "(L ~ num @x) @y", "(S (!) @x) @y", "(_ ~ _ ~ _ @z)"} {
		q := parsed(t, e.Spec(), ask)
		if a, b := findings(t, q, edited, "1;2;#;3+4;", enough), findings(t, q, fresh, "1;2;#;3+4;", enough); !slices.EqualFunc(a, b, same) {
			t.Fatalf("P1407: %s: %s and %s", ask, told(a), told(b))
		}
	}
}

// copied is a tree with a node of its own at each place.
func copied(s *tree.Store, n *tree.Node) *tree.Node {
	if l, ok := n.Leaf(); ok {
		return s.Leaf(l)
	}
	var kids []*tree.Node
	for i := range n.Count() {
		k, _ := n.Kid(i)
		kids = append(kids, copied(s, k))
	}
	out, _ := s.Make(n.Kind(), n.N(), kids...)
	return out
}
