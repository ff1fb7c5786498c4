package relex_test

import (
	"math"
	"math/rand"
	"slices"
	"strings"
	"sync"
	"testing"

	"graft/api"
	"graft/relex"
	"graft/rope"
	"graft/scan"
)

var end = lf(api.KEnd, 0, 0, 1)

func wantBegins(t *testing.T, l []api.Leaf, want ...int) {
	t.Helper()
	if got := relex.Begins(l); !slices.Equal(got, want) {
		t.Errorf("P501: Begins of %v: %v, not %v", l, got, want)
	}
}

func wantDamage(t *testing.T, l []api.Leaf, e api.Edit, from, to int, err api.Errno) {
	t.Helper()
	if a, b, no := relex.Damage(l, e); a != from || b != to || no != err {
		t.Errorf("P502: Damage of %d leaves by {%d %d, %d bytes}: %d %d %v, not %d %d %v", len(l), e.At, e.Del, len(e.Ins), a, b, no, from, to, err)
	}
}

// refused asks Relex for an error, and nothing beside.
func refused(t *testing.T, s *scan.Scanner, old []api.Leaf, text string, e api.Edit, want api.Errno) {
	t.Helper()
	if l, ahead, behind, err := relex.Relex(s, old, ropeOf(t, text), e); len(l) > 0 || ahead != 0 || behind != 0 || err != want {
		t.Errorf("P503: %d leaves, %d bytes, {%d %d, %d bytes}: %d leaves %d %d %v, not %v", len(old), len(text), e.At, e.Del, len(e.Ins), len(l), ahead, behind, err, want)
	}
}

// relexed asks for the leaves of an edited text, and holds all that is told against the words of the chapter.
func relexed(t *testing.T, s *scan.Scanner, text string, e api.Edit) (leaves []api.Leaf, ahead, behind int) {
	t.Helper()
	old, r := s.Leaves(ropeOf(t, text)), ropeOf(t, edited(text, e))
	leaves, ahead, behind, err := relex.Relex(s, old, r, e)
	want := s.Leaves(r)
	from, _, _ := damage(old, e)
	if err != api.OK || ahead != from || behind != kept(old, want, e) || !slices.Equal(leaves, want) {
		t.Fatalf("P503: %q by %v: %v %d %d %v, not %v %d %d", text, e, leaves, ahead, behind, err, want, from, kept(old, want, e))
	}
	if ahead+behind > min(len(old), len(leaves)) || !slices.Equal(leaves[:ahead], old[:ahead]) || !slices.Equal(leaves[len(leaves)-behind:], old[len(old)-behind:]) {
		t.Fatalf("P505: %q by %v: %v of %v, %d ahead, %d behind", text, e, leaves, old, ahead, behind)
	}
	return leaves, ahead, behind
}

func TestExamples(t *testing.T) {
	s, text := ten(t), "1;2;3;"
	old := s.Leaves(ropeOf(t, text))
	if want := []api.Leaf{lf(0, 0, 1, 2), lf(2, 0, 1, 2), lf(0, 0, 1, 2), lf(2, 0, 1, 2), lf(0, 0, 1, 2), lf(2, 0, 1, 2), end}; !slices.Equal(old, want) {
		t.Fatalf("P11: %v", old)
	}
	wantBegins(t, old, 0, 1, 2, 3, 4, 5, 6, 6)
	for _, c := range []struct {
		e                       api.Edit
		from, to, ahead, behind int
		place                   int
		leaf                    api.Leaf
	}{
		{ed(4, 1, "45"), 3, 5, 3, 2, 4, lf(0, 0, 2, 3)},
		{ed(6, 0, " "), 5, 6, 5, 0, 6, lf(api.KEnd, 1, 0, 2)},
		{ed(0, 0, "1"), 0, 0, 0, 6, 0, lf(0, 0, 2, 3)},
		{ed(2, 0, ""), 1, 2, 1, 5, 1, lf(2, 0, 1, 2)},
	} {
		wantDamage(t, old, c.e, c.from, c.to, api.OK)
		l, ahead, behind := relexed(t, s, text, c.e)
		if len(l) != 7 || l[c.place] != c.leaf || ahead != c.ahead || behind != c.behind {
			t.Errorf("P503: %v: %v %d %d", c.e, l, ahead, behind)
		}
	}
	wantDamage(t, old, ed(7, 0, "x"), 0, 0, api.ErrEdit)
	wantDamage(t, old, ed(0, 7, "x"), 0, 0, api.ErrEdit)
	wantDamage(t, old[:6], ed(0, 0, ""), 0, 0, api.ErrLeaves)
}

// TestExamplesOfTheWhole has what the document's ninth and tenth examples say of leaves.
func TestExamplesOfTheWhole(t *testing.T) {
	s := ten(t)
	_, ahead, behind := relexed(t, s, "1;2;3;", ed(4, 1, "45"))
	if ahead != 3 || behind != 2 {
		t.Errorf("the ninth: %d %d", ahead, behind)
	}
	a, _, _ := relexed(t, s, "1;", ed(2, 0, "2;"))
	b, _, _ := relexed(t, s, "2;", ed(0, 0, "1;"))
	if !slices.Equal(a, b) {
		t.Errorf("the tenth: %v, %v", a, b)
	}
}

func TestBegins(t *testing.T) {
	wantBegins(t, nil, 0)
	wantBegins(t, []api.Leaf{}, 0)
	wantBegins(t, []api.Leaf{end}, 0, 0)
	wantBegins(t, []api.Leaf{lf(api.KEnd, 2, 0, 3)}, 0, 2)
	wantBegins(t, []api.Leaf{lf(0, 2, 3, 9), lf(1, 0, 0, 0), lf(api.KBad, 1, 1, 2)}, 0, 5, 5, 7)
	wantBegins(t, []api.Leaf{lf(api.KEnd, -2, 1, 0), end, lf(77, 4, -9, -1)}, 0, -1, -1, -6)
	wantBegins(t, []api.Leaf{lf(0, math.MaxInt, 1, 0), lf(0, 0, -1, 0)}, 0, math.MinInt, math.MaxInt)
	wantBegins(t, []api.Leaf{lf(0, 1<<62, 1<<62, 0), lf(0, 1<<62, 1<<62, 0), lf(0, 3, 0, 0)}, 0, math.MinInt, 0, 3)
}

func TestBeginsOfAny(t *testing.T) {
	d := rand.New(rand.NewSource(501))
	for range 300 {
		l := make([]api.Leaf, d.Intn(9))
		for i := range l {
			l[i] = lf(d.Int(), int(d.Uint64()), int(d.Uint64()), d.Int())
		}
		got, want := relex.Begins(l), []int{0}
		for i := range l {
			want = append(want, want[i]+l[i].Skip+l[i].Len)
		}
		if !slices.Equal(got, want) {
			t.Errorf("P501: %v: %v, not %v", l, got, want)
		}
	}
}

// TestNoRows has lists that are no rows of leaves, each with an edit that fits no text, to ask for the order too.
func TestNoRows(t *testing.T) {
	for _, l := range [][]api.Leaf{
		nil,
		{},
		{lf(0, 0, 1, 2)},
		{lf(api.KBad, 0, 0, 0)},
		{end, lf(0, 0, 1, 2)},
		{end, end},
		{lf(0, 0, 1, 2), end, lf(0, 0, 1, 2), end},
		{lf(0, -1, 1, 2), end},
		{lf(0, 1, -1, 2), end},
		{lf(0, 0, 1, 2), lf(api.KEnd, -1, 0, 1)},
		{lf(0, 0, 1, 2), lf(api.KEnd, 0, -1, 1)},
		{lf(0, math.MinInt, math.MinInt, 2), end},
		{lf(0, 0, api.MaxText+1, 2), end},
		{lf(0, api.MaxText, 0, 2), lf(api.KEnd, 1, 0, 2)},
		{lf(0, 1, api.MaxText, 2), end},
		{lf(0, 0, api.MaxText, 2), lf(0, 0, 1, 2), end},
		{lf(0, math.MaxInt, 1, 2), lf(0, math.MaxInt, 1, 2), end},
		{lf(0, math.MaxInt, math.MaxInt, 2), lf(0, 2, 0, 2), end},
		{lf(0, 1<<62, 1<<62, 0), lf(0, 1<<62, 1<<62, 0), end},
	} {
		for _, e := range []api.Edit{{}, {At: -1}, {Del: -1}, {At: math.MaxInt}, {Ins: make([]byte, api.MaxText+1)}} {
			wantDamage(t, l, e, 0, 0, api.ErrLeaves)
			refused(t, ten(t), l, "", e, api.ErrLeaves)
		}
	}
}

// TestOddRows has rows of leaves that no text has.
func TestOddRows(t *testing.T) {
	wantDamage(t, []api.Leaf{lf(api.KEnd, 0, 5, 6)}, ed(5, 0, ""), 0, 1, api.OK)
	wantDamage(t, []api.Leaf{lf(-3, 0, 1, 1), lf(1000, 1, 0, 0), end}, ed(1, 0, ""), 2, 2, api.OK)
	wantDamage(t, []api.Leaf{lf(0, 0, 0, 0), lf(0, 0, 0, 0), lf(api.KEnd, 0, 0, 0)}, ed(0, 0, ""), 3, 3, api.OK)
	wantDamage(t, []api.Leaf{lf(0, 0, 0, 0), lf(0, 0, 0, 1), end}, ed(0, 0, "a"), 1, 1, api.OK)
	wantDamage(t, []api.Leaf{lf(0, 0, api.MaxText, api.MaxText), end}, ed(api.MaxText, 0, ""), 1, 1, api.OK)
	wantDamage(t, []api.Leaf{lf(0, 0, api.MaxText, api.MaxText+1), end}, ed(api.MaxText, 0, ""), 0, 1, api.OK)
}

func TestEditsThatDoNotFit(t *testing.T) {
	s, row := ten(t), []api.Leaf{lf(0, 0, 1, 2), lf(2, 0, 1, 2), end}
	for _, e := range []api.Edit{
		ed(-1, 0, ""), ed(0, -1, ""), ed(-1, 1, ""), ed(1, -1, ""), ed(3, 0, ""), ed(0, 3, ""), ed(2, 1, ""), ed(1, 2, ""), ed(3, -1, ""),
		ed(1, math.MaxInt, ""), ed(math.MaxInt, 1, ""), ed(math.MaxInt, math.MaxInt, ""), ed(math.MinInt, 0, ""), ed(0, math.MinInt, ""), ed(math.MinInt, math.MinInt, ""),
		{Ins: make([]byte, api.MaxText-1)}, {At: 2, Del: 0, Ins: make([]byte, api.MaxText)}, {Del: 2, Ins: make([]byte, api.MaxText+1)},
	} {
		wantDamage(t, row, e, 0, 0, api.ErrEdit)
		refused(t, s, row, "1;", e, api.ErrEdit)
	}
	wantDamage(t, row, api.Edit{Ins: make([]byte, api.MaxText-2)}, 0, 0, api.OK)
	wantDamage(t, row, api.Edit{Del: 2, Ins: make([]byte, api.MaxText)}, 0, 2, api.OK)
	wantDamage(t, row, ed(0, 2, ""), 0, 2, api.OK)
}

func TestReachOfDamage(t *testing.T) {
	row := func(reach int) []api.Leaf { return []api.Leaf{lf(0, 1, 2, reach), lf(1, 0, 1, 1), end} }
	for _, c := range []struct{ reach, at, from int }{
		{3, 2, 0}, {3, 3, 1}, {4, 3, 0}, {4, 4, 2}, {5, 4, 0}, {math.MaxInt, 4, 0},
		{0, 0, 1}, {-1, 0, 1}, {-7, 4, 2}, {math.MinInt, 0, 1}, {math.MinInt, 4, 2},
	} {
		from, _, err := relex.Damage(row(c.reach), ed(c.at, 0, ""))
		if from != c.from || err != api.OK {
			t.Errorf("P502: Reach %d, At %d: %d %v, not %d", c.reach, c.at, from, err, c.from)
		}
	}
	// A leaf further behind that has not looked at the place stands behind one that has: it is not of the front.
	wantDamage(t, []api.Leaf{lf(0, 0, 1, 9), lf(0, 0, 1, 1), lf(0, 0, 4, 4), end}, ed(5, 0, ""), 0, 3, api.OK)
	wantDamage(t, []api.Leaf{lf(0, 0, 1, math.MaxInt), lf(0, 0, 1, -5), end}, ed(2, 0, ""), 0, 2, api.OK)
	wantDamage(t, []api.Leaf{lf(0, 0, 1, 1), lf(0, 0, 1, math.MaxInt), end}, ed(1, 1, ""), 1, 2, api.OK)
	// A negative Reach counts as 0, and not as less: the leaf's begin still counts.
	wantDamage(t, []api.Leaf{lf(0, 0, 3, -3), lf(0, 0, 1, -3), end}, ed(2, 0, ""), 1, 1, api.OK)
	wantDamage(t, []api.Leaf{lf(0, 0, 3, -3), lf(0, 0, 1, -3), end}, ed(3, 0, ""), 2, 2, api.OK)
}

// TestDamageOfAny holds rows and edits of all sorts against the chapter's words.
func TestDamageOfAny(t *testing.T) {
	d := rand.New(rand.NewSource(502))
	odd := []int{-1, 5, math.MaxInt, math.MinInt, api.MaxText, api.MaxText + 1, 1 << 62}
	number := func() int {
		if d.Intn(25) == 0 {
			return odd[d.Intn(len(odd))]
		}
		return d.Intn(4)
	}
	for range 20000 {
		var l []api.Leaf
		for range d.Intn(6) {
			l = append(l, lf(d.Intn(80)-1, number(), number(), number()))
		}
		if d.Intn(20) > 0 {
			l = append(l, lf(api.KEnd, number(), 0, number()))
		}
		e := ed(number()+d.Intn(9), number(), someText(d, d.Intn(5)))
		from, to, err := damage(l, e)
		wantDamage(t, l, e, from, to, err)
	}
}

func TestErrorsOfRelex(t *testing.T) {
	s, row := ten(t), []api.Leaf{lf(0, 0, 1, 2), lf(2, 0, 1, 2), end}
	long := strings.Repeat(" ", api.MaxText+1)
	for _, c := range []struct {
		old  []api.Leaf
		text string
		e    api.Edit
		want api.Errno
	}{
		{row, long, ed(0, 0, "1"), api.ErrLong},
		{nil, long, ed(-1, 0, ""), api.ErrLong},
		{row, long, ed(3, 0, ""), api.ErrLong},
		{row[:2], "1;1", ed(-1, 0, ""), api.ErrLeaves},
		{row, "1;1", ed(3, 0, "1"), api.ErrEdit},
		{row, "1;", ed(0, 0, "1"), api.ErrLeaves},
		{row, "1;", ed(0, 1, ""), api.ErrLeaves},
		{row, "1;;;", ed(0, 0, ""), api.ErrLeaves},
		{row, "", ed(0, 0, ""), api.ErrLeaves},
		{row, "1", ed(2, 0, ""), api.ErrLeaves},
		{[]api.Leaf{end}, "1", ed(0, 0, ""), api.ErrLeaves},
	} {
		refused(t, s, c.old, c.text, c.e, c.want)
	}
	if _, _, _, err := relex.Relex(s, row, ropeOf(t, long[:api.MaxText]), api.Edit{At: 2, Ins: []byte(long[:api.MaxText-2])}); err != api.OK {
		t.Errorf("P503: a text of MaxText bytes: %v", err)
	}
}

// TestEdges has edits at a text's begin and end, of all of it, and of none.
func TestEdges(t *testing.T) {
	for _, c := range []struct {
		rules         []string
		text          string
		e             api.Edit
		ahead, behind int
	}{
		{nil, "", ed(0, 0, ""), 0, 1},
		{nil, "", ed(0, 0, "a"), 0, 1},
		{nil, "a", ed(0, 1, ""), 0, 1},
		{nil, "##", ed(1, 0, ""), 1, 2}, // bad leaves look at themselves alone
		{nil, "##", ed(1, 1, ""), 1, 1},
		{nil, "##", ed(0, 1, ""), 0, 2},
		{nil, "##", ed(2, 0, "#"), 2, 1},
		{[]string{"a+", "@ +"}, "a", ed(1, 0, " "), 0, 0},
		{[]string{"a+", "@ +"}, "a ", ed(1, 1, ""), 0, 0}, // the end leaf began at 1: it is not behind
		{[]string{"a+", "@ +"}, "a  ", ed(2, 1, ""), 1, 0},
		{[]string{"a+", "@ +"}, " a", ed(0, 1, ""), 0, 1},
		{[]string{"a+", "@ +"}, "a a", ed(1, 1, ""), 0, 1},
		{[]string{"a+", "@ +"}, "aa", ed(1, 0, " "), 0, 1},
		{[]string{"a+", "@ +"}, "a a", ed(0, 3, "a a"), 0, 1},
		{[]string{"a+", "@ +"}, "a a ", ed(0, 4, "a a "), 0, 0},
		{[]string{"a+", "@ +"}, "aaaa", ed(4, 0, ""), 0, 1},
		{[]string{"a+", "@ +"}, "aaaa", ed(0, 0, ""), 0, 2},
		{[]string{"[a-z]", "@ +", `@\/\*[a-z ]*\*\/`}, "/* a b c", ed(8, 0, "*/"), 0, 0},
		{[]string{"[a-z]", "@ +", `@\/\*[a-z ]*\*\/`}, "x/* a */b c", ed(1, 1, ""), 0, 2},
		{[]string{"[a-z]", "@ +", `@\/\*[a-z ]*\*\/`}, "x y/* a */b c", ed(6, 1, "*"), 2, 2},
	} {
		_, ahead, behind := relexed(t, made(t, c.rules...), c.text, c.e)
		if ahead != c.ahead || behind != c.behind {
			t.Errorf("P503: %q by %v: %d ahead, %d behind, not %d, %d", c.text, c.e, ahead, behind, c.ahead, c.behind)
		}
	}
}

// TestEveryEdit has all edits of some places of short texts.
func TestEveryEdit(t *testing.T) {
	for _, rules := range [][]string{
		{"[0-9]+", `\+`, ";", "@ +"},
		{"a", "a+b", "@c"},
		{"@a", "ab*c", "b", "@ +"},
		{"@ab", "@(ab)+d", "abc", "c", "@ "},
		{`\/`, `\*`, "@ +", "[a-z]+", `@\/\*([^*]|\*+[^*\/])*\*+\/`},
		nil,
	} {
		s := made(t, rules...)
		for _, text := range []string{"", "a", "1;2;3;", "abab abd", "aaabc", "/* a */ b /* c", "  a  ", " 1 +2 ;"} {
			for at := range len(text) + 1 {
				for del := range len(text) - at + 1 {
					for _, ins := range []string{"", " ", "a", "b", "*/", "1;", "ab"} {
						relexed(t, s, text, ed(at, del, ins))
					}
				}
			}
		}
	}
}

// TestManyEdits has edits one after the other, each out of the leaves that the one ahead told.
func TestManyEdits(t *testing.T) {
	d := rand.New(rand.NewSource(503))
	for range 150 {
		s, text := someScanner(d), someText(d, d.Intn(60))
		r := ropeOf(t, text)
		leaves := s.Leaves(r)
		for range 40 {
			e := someEdit(d, len(text))
			next, err := r.Splice(e.At, e.Del, e.Ins)
			if err != api.OK {
				t.Fatal(err)
			}
			got, ahead, behind, err := relex.Relex(s, leaves, next, e)
			again, a, b := relexed(t, s, text, e)
			if err != api.OK || ahead != a || behind != b || !slices.Equal(got, again) {
				t.Fatalf("P503: %q by %v: %v %d %d %v, not %v %d %d", text, e, got, ahead, behind, err, again, a, b)
			}
			text, r, leaves = edited(text, e), next, got
		}
	}
}

// TestTakenBack does edits, and those that take them back.
func TestTakenBack(t *testing.T) {
	d := rand.New(rand.NewSource(506))
	for range 3000 {
		s, text := someScanner(d), someText(d, d.Intn(30))
		e := someEdit(d, len(text))
		r, back := ropeOf(t, text), undone(text, e)
		old := s.Leaves(r)
		next, _ := r.Splice(e.At, e.Del, e.Ins)
		there, _, _, err := relex.Relex(s, old, next, e)
		if err != api.OK {
			t.Fatal(err)
		}
		if here, _, _, err := relex.Relex(s, there, r, back); err != api.OK || !slices.Equal(here, old) {
			t.Fatalf("P506: %q by %v and back: %v %v, not %v", text, e, here, err, old)
		}
	}
}

// TestLeavesMove has what P505 says of the leaf ahead of those behind: it ends where it ended, moved.
func TestLeavesMove(t *testing.T) {
	d := rand.New(rand.NewSource(505))
	for range 2000 {
		s, text := someScanner(d), someText(d, d.Intn(30))
		e := someEdit(d, len(text))
		old := s.Leaves(ropeOf(t, text))
		leaves, _, behind := relexed(t, s, text, e)
		before, after := relex.Begins(old), relex.Begins(leaves)
		for m := range behind {
			if after[len(leaves)-1-m]-before[len(old)-1-m] != len(e.Ins)-e.Del {
				t.Fatalf("P505: %q by %v: %v, %v", text, e, before, after)
			}
		}
	}
}

// TestWhatIsLeftIsTaken marks old leaves by their Reach, to see that those behind are taken and not scanned anew.
func TestWhatIsLeftIsTaken(t *testing.T) {
	s, text := ten(t), "1;2;3;4;"
	old := s.Leaves(ropeOf(t, text))
	for i := 4; i < len(old); i++ {
		old[i].Reach += 100
	}
	e := ed(2, 1, "22")
	leaves, ahead, behind, err := relex.Relex(s, old, ropeOf(t, edited(text, e)), e)
	if err != api.OK || ahead != 1 || behind != 6 || !slices.Equal(leaves[4:], old[4:]) {
		t.Errorf("%v %d %d %v", leaves, ahead, behind, err)
	}
}

// TestFarLooks has texts in which leaf after leaf looks up to the end, so that each edit there damages all of them.
func TestFarLooks(t *testing.T) {
	n := api.MaxText - 8
	for _, c := range []struct {
		rules []string
		piece string
	}{
		{[]string{"a", "a+b"}, "a"},
		{[]string{"@a", "a+b"}, "a"},
		{[]string{"a", "(a{9})+b"}, "a"},
		{[]string{`\/`, `\*`, "@ +", "[a-z]+", `@\/\*([^*]|\*+[^*\/])*\*+\/`}, "/* a "},
	} {
		s, text := made(t, c.rules...), strings.Repeat(c.piece, n/len(c.piece))
		old := s.Leaves(ropeOf(t, text))
		for _, e := range []api.Edit{ed(len(text), 0, c.piece), ed(len(text)-1, 1, ""), ed(len(text)/2, 1, "c"), ed(0, 0, "a")} {
			r := ropeOf(t, edited(text, e))
			if got, _, _, err := relex.Relex(s, old, r, e); err != api.OK || !slices.Equal(got, s.Leaves(r)) {
				t.Errorf("P503: %v of %v: %d leaves %v", e, c.rules, len(got), err)
			}
		}
	}
}

// TestLongest has edits of a text of MaxText bytes.
func TestLongest(t *testing.T) {
	s := ten(t)
	text := strings.Repeat("12 + 3;\n", api.MaxText/8)
	old := s.Leaves(ropeOf(t, text))
	for _, c := range []struct {
		e             api.Edit
		ahead, behind int
	}{
		{ed(0, 1, "7"), 0, len(old) - 1},
		{ed(api.MaxText-3, 1, "4"), len(old) - 4, 3},
		{ed(api.MaxText/2, 8, "12 + 3; "), len(old) / 2, len(old)/2 - 5},
		{ed(api.MaxText-1, 1, ""), len(old) - 3, 1},
	} {
		r := ropeOf(t, edited(text, c.e))
		got, ahead, behind, err := relex.Relex(s, old, r, c.e)
		if err != api.OK || !slices.Equal(got, s.Leaves(r)) || ahead != c.ahead || behind != c.behind {
			t.Errorf("P503: %v: %d leaves %d %d %v, not %d %d of %d", c.e, len(got), ahead, behind, err, c.ahead, c.behind, len(old))
		}
	}
}

// TestLeavesOfNoText has rows that are not the old text's leaves: what is answered is not said, but each call ends.
func TestLeavesOfNoText(t *testing.T) {
	d := rand.New(rand.NewSource(1))
	for range 5000 {
		s := someScanner(d)
		var old []api.Leaf
		for range d.Intn(8) {
			old = append(old, lf(d.Intn(5)-1, d.Intn(3), d.Intn(3), d.Intn(6)-2))
		}
		old = append(old, lf(api.KEnd, d.Intn(3), d.Intn(3), d.Intn(4)-1))
		n := int(sum(old).Int64())
		e := someEdit(d, n)
		_, _, _, err := relex.Relex(s, old, ropeOf(t, someText(d, n-e.Del+len(e.Ins))), e)
		if err != api.OK && err != api.ErrLeaves {
			t.Errorf("P1: %v by %v: %v", old, e, err)
		}
	}
	refused(t, ten(t), []api.Leaf{lf(0, 0, 5, 0), end}, "", ed(0, 5, ""), api.ErrLeaves)
}

// TestNothingIsChangedOrShared writes over all that is told, its spare room too, and looks at what was handed in.
func TestNothingIsChangedOrShared(t *testing.T) {
	s, text := ten(t), "1;2;3;"
	mark := lf(9, 9, 9, 9)
	for _, e := range []api.Edit{ed(4, 1, "45"), ed(6, 0, " "), ed(0, 0, "1"), ed(2, 0, ""), ed(0, 6, ""), ed(0, 0, "")} {
		old := filled(s.Leaves(ropeOf(t, text)), 9, mark)
		e.Ins = filled(e.Ins, 9, 'x')
		r := ropeOf(t, edited(text, e))
		before, ins := slices.Clone(old[:cap(old)]), slices.Clone(e.Ins[:cap(e.Ins)])
		leaves, _, _, _ := relex.Relex(s, old, r, e)
		begins := relex.Begins(old)
		relex.Damage(old, e)
		for i := range leaves[:cap(leaves)] {
			leaves[:cap(leaves)][i] = lf(7, 7, 7, 7)
		}
		for i := range begins[:cap(begins)] {
			begins[:cap(begins)][i] = 7
		}
		if !slices.Equal(old[:cap(old)], before) || !slices.Equal(e.Ins[:cap(e.Ins)], ins) || string(r.Bytes()) != edited(text, e) {
			t.Errorf("P2: %v: an argument was changed", e)
		}
		if got, _, _, _ := relex.Relex(s, old, r, e); !slices.Equal(got, s.Leaves(r)) {
			t.Errorf("P2: %v: what was told is kept", e)
		}
		wantBegins(t, old, 0, 1, 2, 3, 4, 5, 6, 6)
	}
}

// TestTheRopesWay makes the new text in several ways.
func TestTheRopesWay(t *testing.T) {
	s, text := ten(t), strings.Repeat("1 + 23 ;", 700)
	e := ed(2500, 400, strings.Repeat("4;5 ", 300))
	old, whole := s.Leaves(ropeOf(t, text)), ropeOf(t, edited(text, e))
	spliced, _ := ropeOf(t, text).Splice(e.At, e.Del, e.Ins)
	crumbs := ropeOf(t, "")
	for i := range whole.Len() {
		crumbs, _ = crumbs.Splice(i, 0, []byte(edited(text, e)[i:i+1]))
	}
	want, ahead, behind, _ := relex.Relex(s, old, whole, e)
	for _, r := range []*rope.Rope{spliced, crumbs} {
		if got, a, b, err := relex.Relex(s, old, r, e); err != api.OK || a != ahead || b != behind || !slices.Equal(got, want) {
			t.Errorf("P3: %d leaves %d %d %v", len(got), a, b, err)
		}
	}
}

func TestSideBySide(t *testing.T) {
	s, text := ten(t), strings.Repeat("1 + 23 ;", 50)
	r := ropeOf(t, text)
	old := s.Leaves(r)
	var group sync.WaitGroup
	for at := range 8 {
		group.Go(func() {
			e := ed(40*at, 5, "7;")
			next, _ := r.Splice(e.At, e.Del, e.Ins)
			for range 20 {
				if got, _, _, err := relex.Relex(s, old, next, e); err != api.OK || !slices.Equal(got, s.Leaves(next)) {
					t.Error("P3: side by side")
				}
			}
		})
	}
	group.Wait()
}
