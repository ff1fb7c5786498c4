package query_test

import (
	"fmt"
	"slices"
	"strings"
	"testing"

	"graft/api"
	"graft/query"
	"graft/tree"
)

// findings are the first ones of a query, at most so many.
func findings(t testing.TB, q *query.Query, n *tree.Node, text string, most int) (out []api.Match) {
	t.Helper()
	seq, e := q.Match(n, []byte(text))
	if seq == nil || e != api.OK {
		t.Fatalf("P1405: %s: %v", q.Print(), e)
	}
	for m := range seq {
		out = append(out, m)
		if len(out) == most {
			break
		}
	}
	return out
}

// told are findings in short: the pattern's place, then of each capture its word, its path, From and To.
func told(l []api.Match) string {
	var out []string
	for _, m := range l {
		one := fmt.Sprint(m.Pattern)
		for _, c := range m.Caps {
			one += fmt.Sprintf(" %s %v %d-%d", c.Name, c.Path, c.From, c.To)
		}
		out = append(out, one)
	}
	return strings.Join(out, ", ")
}

// most is more findings than a test of single queries has.
const most = 1 << 20

// wantFound holds of a query what it finds, by all three calls.
func wantFound(t *testing.T, s api.Spec, n *tree.Node, text, ask, want string) {
	t.Helper()
	q := parsed(t, s, ask)
	l := findings(t, q, n, text, most)
	if got := told(l); got != want {
		t.Errorf("P1404: %q in %q: %s; not %s", ask, text, got, want)
	}
	if k, e := q.Count(n, []byte(text)); k != len(l) || e != api.OK {
		t.Errorf("P1406: %q in %q: %d %v, not %d", ask, text, k, e, len(l))
	}
	m, ok, e := q.First(n, []byte(text))
	if e != api.OK || ok != (len(l) > 0) || ok && !same(m, l[0]) || !ok && !same(m, api.Match{}) {
		t.Errorf("P1406: %q in %q: %v %v %v", ask, text, m, ok, e)
	}
}

// TestExamples are the chapter's.
func TestExamples(t *testing.T) {
	const text = "1 +2;#;"
	e := compiled(t, ten)
	n := planted(t, e, text)
	for _, c := range []struct{ ask, want string }{
		{"num @x", "0 x [0 0 1 0 0 0 0] 0-1, 0 x [0 0 1 0 2 0] 3-4"},
		{`(E (E) . plus . (T num = "2" @n)) @e`, "0 e [0 0 1 0] 0-4 n [0 0 1 0 2 0] 3-4"},
		{`(E (E) . plus . (T num = "3" @n)) @e`, ""},
		{"(L ~ num @x)", "0 x [0 0 1 0 0 0 0] 0-1, 0 x [0 0 1 0 2 0] 3-4, 0 x [0 0 1 0 0 0 0] 0-1, 0 x [0 0 1 0 2 0] 3-4"},
		{"(L . (L) (S) .)", "0, 0"},
		{"(! !)", "0"}, {"(L .)", "0"}, {"(_ ! @b)", "0 b [0 1 0 0] 5-6"}, {"$ @e", "0 e [1] 7-7"},
	} {
		wantFound(t, e.Spec(), n, text, c.ask, c.want)
	}
}

// TestHeads is P1404: each head, at each kind of node.
func TestHeads(t *testing.T) {
	e := compiled(t, ten)
	for _, c := range []struct{ text, ask, want string }{
		// R(0(1()2(5(6(1));))$)
		{"1;", "_ @x", "0 x [] 0-2, 0 x [0] 0-2, 0 x [0 0] 0-0, 0 x [0 1] 0-2, 0 x [0 1 0] 0-1, 0 x [0 1 0 0] 0-1, 0 x [0 1 0 0 0] 0-1, 0 x [0 1 1] 1-2, 0 x [1] 2-2"},
		{"1;", "(_) @x", "0 x [] 0-2, 0 x [0] 0-2, 0 x [0 0] 0-0, 0 x [0 1] 0-2, 0 x [0 1 0] 0-1, 0 x [0 1 0 0] 0-1"},
		{"1;", "(L) @x", "0 x [0] 0-2, 0 x [0 0] 0-0"}, {"1;", "(S) @x (T) @x", "0 x [0 1] 0-2, 1 x [0 1 0 0] 0-1"}, {"1;", "num @x", "0 x [0 1 0 0 0] 0-1"}, {"1;", "plus", ""}, {"1;", "!", ""}, {"1;", "(!)", ""}, {"1;", "$ @x", "0 x [1] 2-2"},
		{"#;", "! @x (!) @x", "1 x [0 1 0] 0-1, 0 x [0 1 0 0] 0-1"},
		{";", "(! .) @x", "0 x [0 1 0] 0-0"}, {";", "(!) @x", "0 x [0 1 0] 0-0"}, {";", "(! _)", ""},
		// B(1#$)
		{"1#", "_ @x", "0 x [] 0-2, 0 x [0] 0-1, 0 x [1] 1-2, 0 x [2] 2-2"}, {"1#", "(_) @x", "0 x [] 0-2"}, {"1#", "(!)", ""}, {"1#", "(L)", ""}, {"1#", "(_ num . ! . $ .)", "0"}, {"1#", "(_ . $)", ""},
		{"", "_ @x", "0 x [] 0-0, 0 x [0] 0-0, 0 x [1] 0-0"}, {"", "(L .) @x", "0 x [0] 0-0"}, {"", "(_ .) @x", "0 x [0] 0-0"},
	} {
		wantFound(t, e.Spec(), planted(t, e, c.text), c.text, c.ask, c.want)
	}
}

// TestTexts is P1404: the text of a node, with trivia ahead, between and behind, and checks of each sign.
func TestTexts(t *testing.T) {
	e := compiled(t, ten)
	const text = "  1 + 22 ;  " // R(0(1()2(4(5(6(1))+6(1));))$)
	n := planted(t, e, text)
	for _, c := range []struct{ ask, want string }{
		{"num @x", "0 x [0 1 0 0 0 0] 2-3, 0 x [0 1 0 2 0] 6-8"}, {"(E) @x", "0 x [0 1 0] 2-8, 0 x [0 1 0 0] 2-3"}, {"(S) @x", "0 x [0 1] 2-10"}, {"$ @x", "0 x [1] 12-12"}, {"(_ $) @x", "0 x [] 2-12"}, {"(L .) @x", "0 x [0 0] 0-0"}, {"semi @x", "0 x [0 1 1] 9-10"},
		{`(E) = "1 + 22"`, "0"}, {`(E) = "1"`, "0"}, {`(E) = "1 + 22 "`, ""}, {`(E) = " 1"`, ""}, {`_ = "1" @x`, "0 x [0 1 0 0] 2-3, 0 x [0 1 0 0 0] 2-3, 0 x [0 1 0 0 0 0] 2-3"}, {`(_) = "1 + 22 ;  " @x`, "0 x [] 2-12"},
		{`num ^ "2"`, "0"}, {`num ^ "22"`, "0"}, {`num ^ "222"`, ""}, {`num ^ ""`, "0, 0"}, {`(E) ^ "1 "`, "0"}, {`(E) ^ "1"`, "0, 0"},
		{`num - "1" @x`, "0 x [0 1 0 2 0] 6-8"}, {`num - "" - "2"`, "0, 0"}, {`num - "1" - "22"`, ""}, {`num ^ "2" - "2" = "22"`, "0"}, {`num = "1" = "22"`, ""}, {`num = "22" = "22" ^ "2" ^ "22" - "1"`, "0"},
		{`_ = "" @x`, "0 x [0 0] 0-0, 0 x [1] 12-12"}, {`$ = ""`, "0"}, {`$ - ""`, ""}, {`$ ^ ""`, "0"}, {`(L) = ""`, "0"}, {`(L .) = ""`, "0"}, {`_ - "" @x`, "0 x [] 2-12, 0 x [0] 2-10, 0 x [0 1] 2-10, 0 x [0 1 0] 2-8, 0 x [0 1 0 0] 2-3, 0 x [0 1 0 0 0] 2-3, 0 x [0 1 0 0 0 0] 2-3, 0 x [0 1 0 1] 4-5, 0 x [0 1 0 2] 6-8, 0 x [0 1 0 2 0] 6-8, 0 x [0 1 1] 9-10"},
	} {
		wantFound(t, e.Spec(), n, text, c.ask, c.want)
	}
	// The bytes are those of the text that is handed in, whatever stands there.
	other := "ab\x00d\xffxyz\n;  "
	for _, c := range []struct{ ask, want string }{{`num = "\x00"`, "0"}, {`plus = "\xff"`, "0"}, {`num ^ "y"`, "0"}, {`num ^ "1"`, ""}} {
		wantFound(t, e.Spec(), n, other, c.ask, c.want)
	}
}

// flat is a node over leaves with these kinds: a is 0, b is 1, and so on; ( ) a node without children.
func flat(t testing.TB, s *tree.Store, kinds string) *tree.Node {
	t.Helper()
	var kids []*tree.Node
	for _, c := range kinds {
		if c == '(' {
			n, _ := s.Make(api.NInner, 0)
			kids = append(kids, n)
		} else {
			kids = append(kids, s.Leaf(api.Leaf{Kind: int(c - 'a'), Len: 1}))
		}
	}
	n, e := s.Make(api.NInner, 1, kids...)
	if e != api.OK {
		t.Fatal(e)
	}
	return n
}

// letters is a spec with the rules a to d, and the names X and Y, each with one production.
func letters() api.Spec {
	return api.Spec{Lex: []api.LexRule{{Name: "a"}, {Name: "b"}, {Name: "c"}, {Name: "d"}}, Names: []string{"X", "Y"}, Productions: []api.Production{{Left: 0}, {Left: 1}}}
}

// TestParts is P1404: parts with and without dots, last dots, and brackets without parts.
func TestParts(t *testing.T) {
	for _, c := range []struct{ kinds, ask, want string }{
		{"", "(Y)", "[]"}, {"", "(Y .)", "[]"}, {"", "(Y _)", ""}, {"", "(Y . _ .)", ""}, {"a", "(Y .)", ""}, {"a", "(Y)", "[]"},
		{"aab", "(Y a @x)", "[0] [1]"}, {"aab", "(Y . a @x)", "[0]"}, {"aab", "(Y . b @x)", ""}, {"aab", "(Y b @x)", "[2]"}, {"aab", "(Y a @x .)", ""}, {"aab", "(Y b @x .)", "[2]"}, {"aab", "(Y . _ @x .)", ""}, {"a", "(Y . _ @x .)", "[0]"},
		{"aab", "(Y a @x a @y)", "[0] [1]"}, {"aab", "(Y a @x b @y)", "[0] [2] [1] [2]"}, {"aab", "(Y a @x . b @y)", "[1] [2]"}, {"aab", "(Y . a @x b @y)", "[0] [2]"}, {"aab", "(Y . a @x . b @y)", ""}, {"aab", "(Y a @x b @y .)", "[0] [2] [1] [2]"}, {"aab", "(Y b @x a @y)", ""}, {"aab", "(Y a @x a @y a @z)", ""}, {"aab", "(Y _ @x _ @y _ @z)", "[0] [1] [2]"}, {"aab", "(Y _ @x _ @y _ @z .)", "[0] [1] [2]"}, {"aab", "(Y _ _ _ _)", ""},
		{"abab", "(Y a @x b @y)", "[0] [1] [0] [3] [2] [3]"}, {"abab", "(Y a @x . b @y)", "[0] [1] [2] [3]"}, {"abab", "(Y a @x . b @y .)", "[2] [3]"}, {"abab", "(Y a @x . b @y a @z . b @w)", "[0] [1] [2] [3]"}, {"abab", "(Y . a @x . b @y . a @z . b @w .)", "[0] [1] [2] [3]"}, {"abab", "(Y a @x . b . a . b . _)", ""},
		{"aaab", "(Y a @x . a @y . b @z)", "[1] [2] [3]"}, {"aaab", "(Y a @x a @y . b @z)", "[0] [2] [3] [1] [2] [3]"}, {"aaab", "(Y a @x . a @y b @z)", "[0] [1] [3] [1] [2] [3]"}, {"aabaab", "(Y a @x . a . b a . a . b @z)", "[0] [5]"},
		{"acbcb", "(Y a @x c @y b @z)", "[0] [1] [2] [0] [1] [4] [0] [3] [4]"}, {"a(b(", "(Y (X) @x)", "[1] [3]"}, {"a(b(", "(Y a @w . (X .) @x b @y . (_ .) @z .)", "[0] [1] [2] [3]"},
	} {
		st := tree.New()
		n := flat(t, st, c.kinds)
		text := strings.Repeat("-", n.Width())
		var got []string
		for _, m := range findings(t, parsed(t, letters(), c.ask), n, text, most) {
			if len(m.Caps) == 0 {
				got = append(got, "[]")
			}
			for _, x := range m.Caps {
				got = append(got, fmt.Sprint(x.Path))
			}
		}
		if strings.Join(got, " ") != c.want {
			t.Errorf("P1404: %s in %q: %v, not %v", c.ask, c.kinds, got, c.want)
		}
	}
}

// TestBelow is P1404: parts with `~`, by themselves, with dots, within one another, and beside others: by the child first, then by the node there.
func TestBelow(t *testing.T) {
	e := compiled(t, ten)
	const text = "1+2;3;" // R(0(0(1()2(4(5(6(1))+6(2));))2(5(6(3));))$)
	n := planted(t, e, text)
	for _, c := range []struct{ ask, want string }{
		{"(S ~ num @x)", "0 x [0 0 1 0 0 0 0] 0-1, 0 x [0 0 1 0 2 0] 2-3, 0 x [0 1 0 0 0] 4-5"},
		{"(S . ~ num @x .)", ""}, {"(S . ~ num @x . semi .)", "0 x [0 0 1 0 0 0 0] 0-1, 0 x [0 0 1 0 2 0] 2-3, 0 x [0 1 0 0 0] 4-5"}, {"(S ~ semi @x)", "0 x [0 0 1 1] 3-4, 0 x [0 1 1] 5-6"},
		{"(E ~ num @x ~ num @y)", "0 x [0 0 1 0 0 0 0] 0-1 y [0 0 1 0 2 0] 2-3"}, {"(E ~ num @x . ~ num @y)", ""}, {"(E ~ num @x . plus . ~ num @y .)", "0 x [0 0 1 0 0 0 0] 0-1 y [0 0 1 0 2 0] 2-3"},
		{"(_ . ~ (E) @x .) @y", ""}, {"(E . ~ (T) @x .) @y", "0 y [0 0 1 0 0] 0-1 x [0 0 1 0 0 0] 0-1, 0 y [0 1 0] 4-5 x [0 1 0 0] 4-5"},
		{"(T ~ _ @x)", "0 x [0 0 1 0 0 0 0] 0-1, 0 x [0 0 1 0 2 0] 2-3, 0 x [0 1 0 0 0] 4-5"}, {"(L ~ (L .) @x)", "0 x [0 0 0] 0-0, 0 x [0 0 0] 0-0"},
		{"(L ~ (E ~ num @x . plus) @y ~ (E ~ num @z))", "0 y [0 0 1 0] 0-3 x [0 0 1 0 0 0 0] 0-1 z [0 1 0 0 0] 4-5"},
		{`(L ~ (E ~ num ^ "2" @x .) @e) @l`, "0 l [0] 0-6 e [0 0 1 0] 0-3 x [0 0 1 0 2 0] 2-3, 0 l [0 0] 0-4 e [0 0 1 0] 0-3 x [0 0 1 0 2 0] 2-3"},
		{"(_ ~ $ @x .)", "0 x [1] 6-6"}, {"(_ ~ (_) @x . $)", "0 x [0] 0-6, 0 x [0 0] 0-4, 0 x [0 0 0] 0-0, 0 x [0 0 1] 0-4, 0 x [0 0 1 0] 0-3, 0 x [0 0 1 0 0] 0-1, 0 x [0 0 1 0 0 0] 0-1, 0 x [0 0 1 0 2] 2-3, 0 x [0 1] 4-6, 0 x [0 1 0] 4-5, 0 x [0 1 0 0] 4-5"},
		{"(_ ~ ! @x)", ""}, {"(L ~ (!))", ""},
	} {
		wantFound(t, e.Spec(), n, text, c.ask, c.want)
	}
}

// TestOrder is P1404 and P1405: nodes in the order of Walk, patterns in theirs, findings in theirs; captures as they are printed, but a pattern's own ahead of its parts'.
func TestOrder(t *testing.T) {
	e := compiled(t, ten)
	const text = "1;2;"
	n := planted(t, e, text) // R(0(0(1()2(5(6(1));))2(5(6(2));))$)
	for _, c := range []struct{ ask, want string }{
		{"num @a (T) @b num @a", "1 b [0 0 1 0 0] 0-1, 0 a [0 0 1 0 0 0] 0-1, 2 a [0 0 1 0 0 0] 0-1, 1 b [0 1 0 0] 2-3, 0 a [0 1 0 0 0] 2-3, 2 a [0 1 0 0 0] 2-3"},
		{"(S (E (T num @d) @c) @b semi @e) @a", "0 a [0 0 1] 0-2 b [0 0 1 0] 0-1 c [0 0 1 0 0] 0-1 d [0 0 1 0 0 0] 0-1 e [0 0 1 1] 1-2, 0 a [0 1] 2-4 b [0 1 0] 2-3 c [0 1 0 0] 2-3 d [0 1 0 0 0] 2-3 e [0 1 1] 3-4"},
		{"(L ~ num @x ~ semi @y)", "0 x [0 0 1 0 0 0] 0-1 y [0 1 1] 3-4"},
		{"(L (L ~ (_ _ @x . semi @y)) @l (S ~ _ @z))", "0 l [0 0] 0-2 x [0 0 1 0] 0-1 y [0 0 1 1] 1-2 z [0 1 0] 2-3, 0 l [0 0] 0-2 x [0 0 1 0] 0-1 y [0 0 1 1] 1-2 z [0 1 0 0] 2-3, 0 l [0 0] 0-2 x [0 0 1 0] 0-1 y [0 0 1 1] 1-2 z [0 1 0 0 0] 2-3, 0 l [0 0] 0-2 x [0 0 1 0] 0-1 y [0 0 1 1] 1-2 z [0 1 1] 3-4"},
		{"$ $ $", "0, 1, 2"},
	} {
		wantFound(t, e.Spec(), n, text, c.ask, c.want)
	}
}

// TestNodesBelow is P1405 of nodes that are no roots, and of single leaves: paths and places are counted from them.
func TestNodesBelow(t *testing.T) {
	e := compiled(t, ten)
	const text = " 1 +2;#;"
	n := planted(t, e, text)
	c := n.Cursor()
	for _, i := range []int{0, 0, 1, 0} {
		c.Down(i)
	}
	sum := c.Node() // 4(5(6(1))+6(2))
	wantFound(t, e.Spec(), sum, " 1 +2", "num @x", "0 x [0 0 0] 1-2, 0 x [2 0] 4-5")
	wantFound(t, e.Spec(), sum, " 1 +2", `(E) = "1 +2" @x`, "0 x [] 1-5")
	c.Down(1)
	wantFound(t, e.Spec(), c.Node(), " +", "_ @x plus @y num", "0 x [] 1-2, 1 y [] 1-2")
	wantFound(t, e.Spec(), c.Node(), " +", `plus - "+"`, "")
	wantFound(t, e.Spec(), c.Node(), " +", "(_)", "")
	st := tree.New()
	empty, _ := st.Make(api.NInner, 1)
	wantFound(t, e.Spec(), empty, "", "(L .) @x num (L _) _ @y", "0 x [] 0-0, 3 y [] 0-0")
	wantFound(t, e.Spec(), st.Leaf(api.Leaf{Kind: api.KEnd, Skip: 2}), "  ", `$ = "" @x`, "0 x [] 2-2")
	wantFound(t, e.Spec(), st.Leaf(api.Leaf{Kind: api.KBad, Skip: -3, Len: 2}), "ab", `! = "ab" @x`, "0 x [] 0-2")
	wantFound(t, e.Spec(), st.Leaf(api.Leaf{Kind: 0, Skip: 1, Len: api.MaxText + 1}), "a", `num = "" @x`, "0 x [] 1-1")
}

// TestOddNumbers: nodes whose numbers are no production's fit no name.
func TestOddNumbers(t *testing.T) {
	s := letters()
	st := tree.New()
	var kids []*tree.Node
	for _, n := range []int{0, 1, 2, 512, 1 << 40} {
		k, _ := st.Make(api.NInner, n)
		kids = append(kids, k)
	}
	kids = append(kids, st.Leaf(api.Leaf{Kind: 99}), st.Leaf(api.Leaf{Kind: -5}))
	n, _ := st.Make(api.NRoot, 0, kids...)
	wantFound(t, s, n, "", "(X) @x (Y) @y", "0 x [0] 0-0, 1 y [1] 0-0")
	wantFound(t, s, n, "", "(_ .) @x", "0 x [0] 0-0, 0 x [1] 0-0, 0 x [2] 0-0, 0 x [3] 0-0, 0 x [4] 0-0")
	wantFound(t, s, n, "", "a b c d ! $", "")
}

// TestShared: a node that hangs at several places is found at each, with the text that stands there.
func TestShared(t *testing.T) {
	st := tree.New()
	leaf := st.Leaf(api.Leaf{Kind: 0, Skip: 1, Len: 1})
	x, _ := st.Make(api.NInner, 0, leaf, leaf)
	n, _ := st.Make(api.NInner, 1, x, leaf, x)
	const text = "-1-2-3-1-4"
	wantFound(t, letters(), n, text, "a @x", "0 x [0 0] 1-2, 0 x [0 1] 3-4, 0 x [1] 5-6, 0 x [2 0] 7-8, 0 x [2 1] 9-10")
	wantFound(t, letters(), n, text, `a = "1" @x`, "0 x [0 0] 1-2, 0 x [2 0] 7-8")
	wantFound(t, letters(), n, text, `(X) = "1-4" @x`, "0 x [2] 7-10")
	wantFound(t, letters(), n, text, `(Y ~ a = "1" @x ~ a - "2" @y .)`, "0 x [0 0] 1-2 y [2 0] 7-8, 0 x [0 0] 1-2 y [2 1] 9-10")
	wantFound(t, letters(), n, text, `(Y ~ a = "4" @x)`, "0 x [2 1] 9-10")
}

// TestArgs is P1405 and P1406: ErrArg for texts that are shorter or longer than the tree.
func TestArgs(t *testing.T) {
	e := compiled(t, ten)
	for _, text := range []string{"", "1;", " 1 +2;#; ", "1"} {
		n := planted(t, e, text)
		for _, ask := range []string{"_", "num @x", "(L ~ num)", "plus - \"\""} {
			q := parsed(t, e.Spec(), ask)
			for size := range len(text) + 4 {
				b := make([]byte, size)
				seq, err := q.Match(n, b)
				_, counted := q.Count(n, b)
				_, _, first := q.First(n, b)
				if size == len(text) {
					if seq == nil || err != api.OK || counted != api.OK || first != api.OK {
						t.Errorf("P1405: %q: %v %v %v", text, err, counted, first)
					}
					continue
				}
				k, _ := q.Count(n, b)
				m, ok, _ := q.First(n, b)
				if seq != nil || err != api.ErrArg || counted != api.ErrArg || first != api.ErrArg || k != 0 || ok || !same(m, api.Match{}) {
					t.Errorf("P1405: %q with %d bytes: %v %v %v", text, size, err, counted, first)
				}
			}
		}
	}
}

// TestTries is P1406: MaxTries findings and one more.
func TestTries(t *testing.T) {
	for _, c := range []struct {
		ask    string
		leaves int
		want   int // as it would be without a bound
	}{
		{"a", api.MaxTries, api.MaxTries}, {"a", api.MaxTries - 1, api.MaxTries - 1}, {"a", api.MaxTries + 1, api.MaxTries + 1}, {"b a b", api.MaxTries, api.MaxTries}, {"a a @x", api.MaxTries / 2, api.MaxTries}, {"a a (_) @x", api.MaxTries / 2, api.MaxTries + 1},
		{"(_ a a)", 1448, 1047628}, {"(_ a a)", 1449, 1449 * 724}, {"(_ _ ~ _ _)", 185, 185 * 184 * 183 / 6}, {"(_ _ ~ _ _)", 186, 186 * 185 * 184 / 6}, {"(_ _ _ _ _ _ _ _ _ _ _ _)", 300, api.MaxTries + 1}, {"b", api.MaxTries + 5, 0},
	} {
		st := tree.New()
		leaf := st.Leaf(api.Leaf{})
		kids := slices.Repeat([]*tree.Node{leaf}, c.leaves)
		n, e := st.Make(api.NBroken, 0, kids...)
		if e != api.OK {
			t.Fatal(e)
		}
		k, err := parsed(t, letters(), c.ask).Count(n, nil)
		if c.want > api.MaxTries && (k != 0 || err != api.ErrTries) || c.want <= api.MaxTries && (k != c.want || err != api.OK) {
			t.Errorf("P1406: %s over %d leaves: %d %v, not %d", c.ask, c.leaves, k, err, c.want)
		}
	}
}
