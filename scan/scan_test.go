package scan_test

import (
	"fmt"
	"iter"
	"math"
	"math/rand"
	"runtime"
	"slices"
	"strings"
	"sync"
	"testing"

	"graft/api"
	"graft/rope"
	"graft/scan"
)

func chapter(t *testing.T) *scan.Scanner {
	t.Helper()
	return made(t, "[0-9]+", `\.\.\.`, "@ +", `\.`)
}

func wantTokens(t *testing.T, s *scan.Scanner, text string, want ...api.Token) {
	t.Helper()
	if got := s.Tokens(ropeOf(t, text)); !slices.Equal(got, want) {
		t.Errorf("P403: Tokens of %q: %v, not %v", text, got, want)
	}
}

func wantLeaves(t *testing.T, s *scan.Scanner, text string, want ...api.Leaf) {
	t.Helper()
	if got := s.Leaves(ropeOf(t, text)); !slices.Equal(got, want) {
		t.Errorf("P406: Leaves of %q: %v, not %v", text, got, want)
	}
}

func wantToken(t *testing.T, s *scan.Scanner, r *rope.Rope, at int, want api.Token, err api.Errno) {
	t.Helper()
	if got, e := s.Token(r, at); got != want || e != err {
		t.Errorf("P402: Token at %d of %d bytes: %v %v, not %v %v", at, r.Len(), got, e, want, err)
	}
}

func wantLeaf(t *testing.T, s *scan.Scanner, r *rope.Rope, at int, want api.Leaf, err api.Errno) {
	t.Helper()
	if got, e := s.Leaf(r, at); got != want || e != err {
		t.Errorf("P405: Leaf at %d of %d bytes: %v %v, not %v %v", at, r.Len(), got, e, want, err)
	}
}

// refused asks New for a fault, and nothing beside.
func refused(t *testing.T, name string, lex []api.LexRule, want api.Fault) {
	t.Helper()
	if s, f := scan.New(lex); s != nil || f != want {
		t.Errorf("P401: %s: %v %+v, not %+v", name, s != nil, f, want)
	}
}

func TestExamplesOfTokens(t *testing.T) {
	s := chapter(t)
	wantTokens(t, s, "12 .", tok(0, 2, 3), tok(2, 1, 2), tok(3, 1, 2))
	wantTokens(t, s, "1", tok(0, 1, 2))
	wantTokens(t, s, "..x", tok(3, 1, 3), tok(3, 1, 2), tok(api.KBad, 1, 1))
	wantTokens(t, s, "..", tok(3, 1, 3), tok(3, 1, 2))
	wantTokens(t, s, "...", tok(1, 3, 4))
	wantTokens(t, s, "")
	wantTokens(t, made(t), "ab", tok(api.KBad, 1, 1), tok(api.KBad, 1, 1))
}

func TestExamplesOfLeaves(t *testing.T) {
	s := chapter(t)
	wantLeaves(t, s, "12 .", lf(0, 0, 2, 3), lf(3, 1, 1, 3), lf(api.KEnd, 0, 0, 1))
	wantLeaves(t, s, " ", lf(api.KEnd, 1, 0, 2))
	wantLeaves(t, s, "", lf(api.KEnd, 0, 0, 1))
	wantLeaves(t, made(t), "ab", lf(api.KBad, 0, 1, 1), lf(api.KBad, 0, 1, 1), lf(api.KEnd, 0, 0, 1))
}

func TestExamplesOfPlaces(t *testing.T) {
	s, r := chapter(t), ropeOf(t, "12")
	wantToken(t, s, r, 1, tok(0, 1, 2), api.OK)
	wantToken(t, s, r, 2, api.Token{}, api.ErrRange)
	wantLeaf(t, s, r, 2, lf(api.KEnd, 0, 0, 1), api.OK)
	wantLeaf(t, s, r, 3, api.Leaf{}, api.ErrRange)
}

// TestExamplesOfTheWhole has what the document's first examples say of leaves.
func TestExamplesOfTheWhole(t *testing.T) {
	s := made(t, "[0-9]+", `\+`, ";", "@ +")
	end := lf(api.KEnd, 0, 0, 1)
	wantLeaves(t, s, "1;", lf(0, 0, 1, 2), lf(2, 0, 1, 2), end)
	wantLeaves(t, s, "1 + 2 ;", lf(0, 0, 1, 2), lf(1, 1, 1, 3), lf(0, 1, 1, 3), lf(2, 1, 1, 3), end)
	wantLeaves(t, s, "1#", lf(0, 0, 1, 2), lf(api.KBad, 0, 1, 1), end)
}

func TestNewRefuses(t *testing.T) {
	good, empty, wrong := rng('a', 'a'), rep(0, -1, rng('a', 'a')), rep(2, 1, rng('a', 'a'))
	large := rep(1000, 1000, rep(1000, 1000, good))
	deep := good
	for range api.MaxNest {
		deep = rep(1, 1, deep)
	}
	sets := func(n int) api.Expr {
		ab := rng('a', 'b')
		return seq(rep(0, -1, ab), good, rep(n, n, ab))
	}
	for _, c := range []struct {
		name  string
		exprs []api.Expr
		want  api.Fault
	}{
		{"the second is empty", []api.Expr{good, empty}, api.Fault{Err: api.ErrEmpty, At: 1}},
		{"the first is empty", []api.Expr{empty, empty}, api.Fault{Err: api.ErrEmpty}},
		{"no kind", []api.Expr{good, good, {}}, api.Fault{Err: api.ErrExpr, At: 2}},
		{"empty ahead of wrong", []api.Expr{good, empty, wrong}, api.Fault{Err: api.ErrEmpty, At: 1}},
		{"wrong ahead of empty", []api.Expr{good, wrong, empty}, api.Fault{Err: api.ErrExpr, At: 1}},
		{"wrong and empty", []api.Expr{good, rep(0, 1001, good)}, api.Fault{Err: api.ErrExpr, At: 1}},
		{"positions", []api.Expr{good, large}, api.Fault{Err: api.ErrPositions, At: 1}},
		{"deep", []api.Expr{good, good, deep}, api.Fault{Err: api.ErrNest, At: 2}},
		{"values", []api.Expr{good, seq(slices.Repeat([]api.Expr{good}, 4096)...)}, api.Fault{Err: api.ErrLong, At: 1}},
		{"sets", []api.Expr{sets(11)}, api.Fault{Err: api.ErrSets}},
		{"sets of the second", []api.Expr{good, sets(11)}, api.Fault{Err: api.ErrSets}},
		{"empty ahead of sets", []api.Expr{sets(11), good, empty}, api.Fault{Err: api.ErrEmpty, At: 2}},
		{"wrong ahead of sets", []api.Expr{sets(11), good, good, wrong}, api.Fault{Err: api.ErrExpr, At: 3}},
		{"65 rules", slices.Repeat([]api.Expr{good}, api.MaxLex+1), api.Fault{Err: api.ErrLong}},
		{"65 wrong rules", slices.Repeat([]api.Expr{wrong}, api.MaxLex+1), api.Fault{Err: api.ErrLong}},
		{"65 rules of many sets", slices.Repeat([]api.Expr{sets(11)}, api.MaxLex+1), api.Fault{Err: api.ErrLong}},
	} {
		refused(t, c.name, plain(c.exprs), c.want)
	}
	built(t, plain([]api.Expr{sets(10)}))
}

// plain makes rules of trees, without names.
func plain(exprs []api.Expr) []api.LexRule {
	var lex []api.LexRule
	for _, e := range exprs {
		lex = append(lex, api.LexRule{Expr: e})
	}
	return lex
}

func TestNewTakes(t *testing.T) {
	s := built(t, plain(slices.Repeat([]api.Expr{rng('a', 'a')}, api.MaxLex)))
	wantTokens(t, s, "ab", tok(0, 1, 2), tok(api.KBad, 1, 1))
	wantTokens(t, built(t, []api.LexRule{}), "a", tok(api.KBad, 1, 1))
	var all []api.Expr
	for i := range api.MaxLex {
		all = append(all, rng(4*i, 4*i+3))
	}
	wantTokens(t, built(t, plain(all)), "\x00\xff", tok(0, 1, 2), tok(63, 1, 2))
}

// TestNames says that names are not looked at, and change nothing.
func TestNames(t *testing.T) {
	lex := lexOf(t, "[a-c]+", "@ +", "a b", `"[^"]*"`)
	want := built(t, lex).Leaves(ropeOf(t, `abc a b "x" "`))
	for _, name := range []string{"", "\x00", "rule", strings.Repeat("n", 1000)} {
		for i := range lex {
			lex[i].Name = name
		}
		if got := built(t, lex).Leaves(ropeOf(t, `abc a b "x" "`)); !slices.Equal(got, want) {
			t.Errorf("P410: %q: %v, not %v", name, got, want)
		}
	}
}

// wrongPlaces are none of a text of n bytes, nor its end.
func wrongPlaces(n int) []int {
	return []int{-1, n + 1, -n - 1, n + 1<<32, 1 << 62, math.MaxInt, math.MinInt}
}

func TestWrongPlaces(t *testing.T) {
	for _, text := range []string{"", "1", "1 2 ..x", strings.Repeat("1 ", 3000)} {
		s, r := chapter(t), ropeOf(t, text)
		wantToken(t, s, r, r.Len(), api.Token{}, api.ErrRange)
		wantLeaf(t, s, r, r.Len(), lf(api.KEnd, 0, 0, 1), api.OK)
		for _, at := range wrongPlaces(r.Len()) {
			wantToken(t, s, r, at, api.Token{}, api.ErrRange)
			wantLeaf(t, s, r, at, api.Leaf{}, api.ErrRange)
			if from, e := s.From(r, at); from != nil || e != api.ErrRange {
				t.Errorf("P404: From %d of %d bytes: %v %v", at, r.Len(), from != nil, e)
			}
		}
	}
}

// told is one that From tells.
type told struct {
	place int
	token api.Token
}

func from(t *testing.T, s *scan.Scanner, r *rope.Rope, at int) iter.Seq2[int, api.Token] {
	t.Helper()
	tokens, e := s.From(r, at)
	if tokens == nil || e != api.OK {
		t.Fatalf("P404: From %d of %d bytes: %v %v", at, r.Len(), tokens != nil, e)
	}
	return tokens
}

// gone is what a sequence tells, up to a number of items.
func gone(tokens iter.Seq2[int, api.Token], most int) []told {
	var list []told
	for place, x := range tokens {
		if len(list) == most {
			break
		}
		list = append(list, told{place, x})
	}
	return list
}

// behind is what From tells of a text, by the patterns alone.
func behind(lex []api.LexRule, text string, at int) []told {
	var list []told
	for _, x := range tokens(lex, text[at:]) {
		list = append(list, told{at, x})
		at += x.Len
	}
	return list
}

// texts that look far and near, end in the midst of tokens, and have bytes of no rule.
func cases() [][]string {
	return [][]string{
		{"12 ..x... 3", "[0-9]+", `\.\.\.`, "@ +", `\.`},
		{"12 ..", "[0-9]+", `\.\.\.`, "@ +", `\.`},
		{"aaaaaaaa", "a", "a+b"},
		{"aaaabaaaa", "a", "a+b"},
		{"aaaaaaaaa", "@a", "(aaa)+b"},
		{"aaaaaaa", "aaa+b"},
		{"/* a /* b", `\/`, `\*`, "@ +", "[a-z]+", `@\/\*([^*]|\*+[^*\/])*\*+\/`},
		{"/* a */ /* b", `\/`, `\*`, "@ +", "[a-z]+", `@\/\*([^*]|\*+[^*\/])*\*+\/`},
		{`"a\"b" "c\" `, `"([^"\\]|\\.)*"`, "[a-z]+", "@ +"},
		{`\"\"\"\"`, `"([^"\\]|\\.)*"`},
		{"abbbd bb", "@a", "ab*c", "b", "@ "},
		{"ababababc", "@ab", "@(ab)+d", "abc", "c"},
		{"if ifx i", "if", "[a-z]+", "@ "},
		{"ifif", "[a-z]+", "if"},
		{"\x00\xff\x80\x00", `@\x00`, `\xff\x80`, `[\x80-\xff]`},
		{"xyz"},
		{"", "a"},
		{"    ", "@ "},
		{" a ", "@ +", "a"},
	}
}

func TestEveryPlace(t *testing.T) {
	for _, c := range cases() {
		lex, text := lexOf(t, c[1:]...), c[0]
		s, r := built(t, lex), ropeOf(t, text)
		wantTokens(t, s, text, tokens(lex, text)...)
		wantLeaves(t, s, text, leaves(lex, text)...)
		for at := range len(text) + 1 {
			if at < len(text) {
				wantToken(t, s, r, at, token(lex, text[at:]), api.OK)
			}
			wantLeaf(t, s, r, at, leaf(lex, text[at:]), api.OK)
			if got, want := gone(from(t, s, r, at), -1), behind(lex, text, at); !slices.Equal(got, want) {
				t.Errorf("P404: From %d of %q: %v, not %v", at, text, got, want)
			}
		}
	}
}

func TestFromIsLeftAndGoneOverAgain(t *testing.T) {
	for _, c := range cases() {
		lex, text := lexOf(t, c[1:]...), c[0]
		seq, want := from(t, built(t, lex), ropeOf(t, text), 0), behind(lex, text, 0)
		for n := range len(want) + 1 {
			if got := gone(seq, n); !slices.Equal(got, want[:n]) {
				t.Errorf("P404: %q, left behind %d: %v, not %v", text, n, got, want[:n])
			}
			if got := gone(seq, -1); !slices.Equal(got, want) {
				t.Errorf("P404: %q, again: %v, not %v", text, got, want)
			}
		}
	}
}

func TestFromWithinItself(t *testing.T) {
	for _, c := range cases() {
		lex, text := lexOf(t, c[1:]...), c[0]
		seq, want := from(t, built(t, lex), ropeOf(t, text), 0), behind(lex, text, 0)
		var outer []told
		for place, x := range seq {
			outer = append(outer, told{place, x})
			if got := gone(seq, -1); !slices.Equal(got, want) {
				t.Errorf("P404: %q, within: %v, not %v", text, got, want)
			}
			gone(seq, len(outer))
		}
		if !slices.Equal(outer, want) {
			t.Errorf("P404: %q, around: %v, not %v", text, outer, want)
		}
	}
}

// TestFromInTurns goes over two sequences of two scanners and of one, a step here and a step there.
func TestFromInTurns(t *testing.T) {
	text := strings.Repeat("aab aaa ", 5)
	one, two := lexOf(t, "a+", "b", "@ "), lexOf(t, "a", "a+b", "@ +")
	r := ropeOf(t, text)
	s := built(t, one)
	lexes := [][]api.LexRule{one, two, one}
	seqs := []iter.Seq2[int, api.Token]{from(t, s, r, 0), from(t, built(t, two), r, 0), from(t, s, r, 0)}
	got := make([][]told, len(seqs))
	var nexts []func() (int, api.Token, bool)
	for _, seq := range seqs {
		next, stop := iter.Pull2(seq)
		defer stop()
		nexts = append(nexts, next)
	}
	for range text {
		for i, next := range nexts {
			if place, x, ok := next(); ok {
				got[i] = append(got[i], told{place, x})
			}
		}
	}
	for i := range seqs {
		if want := behind(lexes[i], text, 0); !slices.Equal(got[i], want) {
			t.Errorf("P3: in turns: %v, not %v", got[i], want)
		}
	}
}

// room is how many bytes a call takes up in all.
func room(call func()) uint64 {
	var before, after runtime.MemStats
	runtime.ReadMemStats(&before)
	call()
	runtime.ReadMemStats(&after)
	return after.TotalAlloc - before.TotalAlloc
}

// TestNothingFurtherIsScanned has a second token that can't be found without reading the whole text, which takes room.
func TestNothingFurtherIsScanned(t *testing.T) {
	s, r := made(t, "x", "a+b"), ropeOf(t, "x"+strings.Repeat("a", 1<<20))
	seq := from(t, s, r, 0)
	for name, call := range map[string]func(){
		"From": func() { gone(seq, 0) },
		"again": func() {
			for range seq {
				break
			}
		},
		"Token": func() { s.Token(r, 0) },
		"Leaf":  func() { s.Leaf(r, 0) },
	} {
		if n := room(call); n > 1<<16 {
			t.Errorf("P404: %s: %d bytes of room", name, n)
		}
	}
	if n := room(func() { gone(from(t, s, r, 1), 0) }); n < 1<<16 {
		t.Errorf("the long token takes %d bytes of room: the test tells nothing", n)
	}
}

func TestReachOfTokens(t *testing.T) {
	s := made(t, "abc", "x", "x[0-9]*y", "@_+")
	bad := func(reach int) api.Token { return tok(api.KBad, 1, reach) }
	for _, c := range []struct {
		text string
		want api.Token
	}{
		{"?", bad(1)}, {"?abc", bad(1)},
		{"a", bad(2)}, {"ab", bad(3)}, {"a?", bad(2)}, {"ab?", bad(3)}, {"aba", bad(3)}, {"aabc", bad(2)},
		{"abc", tok(0, 3, 4)}, {"abcabc", tok(0, 3, 4)},
		{"x", tok(1, 1, 2)}, {"x?", tok(1, 1, 2)}, {"x12", tok(1, 1, 4)}, {"x12?", tok(1, 1, 4)}, {"x12??", tok(1, 1, 4)},
		{"xy", tok(2, 2, 3)}, {"x12y", tok(2, 4, 5)}, {"x12yy", tok(2, 4, 5)},
		{"__", tok(3, 2, 3)}, {"__x", tok(3, 2, 3)},
	} {
		wantToken(t, s, ropeOf(t, c.text), 0, c.want, api.OK)
		wantToken(t, s, ropeOf(t, "abc"+c.text), 3, c.want, api.OK)
	}
}

func TestReachOfLeaves(t *testing.T) {
	s := made(t, "@a", "ab*c", "b", "d", "@ +")
	end := func(skip int) api.Leaf { return lf(api.KEnd, skip, 0, skip+1) }
	for _, c := range []struct {
		text string
		want api.Leaf
	}{
		{"abbbd", lf(2, 1, 1, 5)},  // the trivia looked at d
		{"abbb", lf(2, 1, 1, 5)},   // the trivia looked at the end
		{"aabbb", lf(2, 2, 1, 6)},  // the second one did
		{"abb  d", lf(2, 1, 1, 4)}, // up to the first blank
		{"ad", lf(3, 1, 1, 3)},     // the leaf itself looked further
		{" a d", lf(3, 3, 1, 5)},   // three pieces of trivia
		{" a?", lf(api.KBad, 2, 1, 3)},
		{"ab?", lf(2, 1, 1, 3)},
		{"abbc", lf(1, 0, 4, 5)},
		{"a", end(1)}, {" ", end(1)}, {"aa  a", end(5)}, {"", end(0)},
	} {
		wantLeaf(t, s, ropeOf(t, c.text), 0, c.want, api.OK)
		wantLeaf(t, s, ropeOf(t, "dd"+c.text), 2, c.want, api.OK)
	}
}

// TestLookingIsAll holds texts against others that are alike just where a token or leaf has looked.
func TestLookingIsAll(t *testing.T) {
	d := rand.New(rand.NewSource(408))
	for range 300 {
		lex := someLex(d, 4)
		s, text := built(t, lex), someText(d, 1+d.Intn(20))
		for at := range len(text) + 1 {
			var reach int
			if at < len(text) {
				x, _ := s.Token(ropeOf(t, text), at)
				reach = x.Reach
				bounds(t, x, len(text)-at)
				for _, other := range others(d, text, at, reach) {
					wantToken(t, s, ropeOf(t, other), at, x, api.OK)
				}
			}
			l, _ := s.Leaf(ropeOf(t, text), at)
			if l.Reach < max(reach, l.Skip+1) || l.Reach > len(text)-at+1 {
				t.Errorf("P408: %v at %d of %q", l, at, text)
			}
			for _, other := range others(d, text, at, l.Reach) {
				wantLeaf(t, s, ropeOf(t, other), at, l, api.OK)
			}
		}
	}
}

// bounds asks what the document says of every token with so many bytes of text from its place on.
func bounds(t *testing.T, x api.Token, rest int) {
	t.Helper()
	if x.Len < 1 || x.Reach < 1 || x.Reach > rest+1 {
		t.Errorf("P407, P408: %v with %d bytes", x, rest)
	}
	if x.Rule == api.KBad && x.Len != 1 || x.Rule != api.KBad && x.Reach <= x.Len {
		t.Errorf("P407, P408: %v", x)
	}
}

// others are texts that are alike from a place on as far as the reach goes, and any bytes elsewhere.
func others(d *rand.Rand, text string, at, reach int) []string {
	if at+reach > len(text) {
		return []string{someText(d, at) + text[at:]}
	}
	same := text[at : at+reach]
	return []string{
		someText(d, at) + same,
		someText(d, at) + same + someText(d, 5),
		text[:at] + same + strings.Repeat(text[at+reach-1:at+reach], 9),
		text[:at] + same + string(rune('a'+d.Intn(3))) + text[at+reach:],
	}
}

// TestAgainstThePatterns holds many rules and texts against what the patterns say by themselves.
func TestAgainstThePatterns(t *testing.T) {
	d := rand.New(rand.NewSource(409))
	for range 1500 {
		lex := someLex(d, 5)
		s, text := built(t, lex), someText(d, d.Intn(30))
		r := crumbs(t, text, 1+d.Intn(9))
		if got, want := s.Tokens(r), tokens(lex, text); !slices.Equal(got, want) {
			t.Fatalf("P409: %v: Tokens of %q: %v, not %v", patterns(lex), text, got, want)
		}
		if got, want := s.Leaves(r), leaves(lex, text); !slices.Equal(got, want) {
			t.Fatalf("P406: %v: Leaves of %q: %v, not %v", patterns(lex), text, got, want)
		}
	}
}

// TestLongTexts holds a walk over a long text against single calls, each of which begins anew.
func TestLongTexts(t *testing.T) {
	d := rand.New(rand.NewSource(403))
	for range 60 {
		lex := someLex(d, 5)
		s, r := built(t, lex), ropeOf(t, someText(d, 5000))
		at := 0
		for _, x := range s.Tokens(r) {
			wantToken(t, s, r, at, x, api.OK)
			at += x.Len
		}
		if at != r.Len() {
			t.Errorf("P407: %v: the tokens have %d bytes", patterns(lex), at)
		}
		at = 0
		for _, l := range s.Leaves(r) {
			wantLeaf(t, s, r, at, l, api.OK)
			at += l.Skip + l.Len
		}
		if at != r.Len() {
			t.Errorf("P407: %v: the leaves have %d bytes", patterns(lex), at)
		}
	}
}

// TestFarLooksMeet has searches that run far behind their tokens, part, meet again and stop at unlike places.
func TestFarLooksMeet(t *testing.T) {
	d := rand.New(rand.NewSource(404))
	for _, rules := range [][]string{
		{"a", "a[ab]*c", "@d"},
		{"a", "b", "a[ab]*c", "@c", "d"},
		{"@a", "b", "(aa)+c", "(a|b)+d", "c"},
		{"@[ab]", "(a|bb)+cc", "[ab]{7}", "([ab]{3})+d"},
		{"ab", "@(a|b)(a|b|c)*d", "((a|b){2}c?)+e", "c"},
		{"a[ab]*c[ab]*", "b([ab]|c[ab]{30})*cc", "@b"},
	} {
		s := made(t, rules...)
		for range 6 {
			b := make([]byte, 2000)
			rare := 20 + d.Intn(600)
			for i := range b {
				b[i] = byte('a' + d.Intn(2))
				if d.Intn(rare) == 0 {
					b[i] = byte('c' + d.Intn(3))
				}
			}
			r := ropeOf(t, string(b))
			for place, x := range from(t, s, r, 0) {
				wantToken(t, s, r, place, x, api.OK)
			}
		}
	}
}

// TestTheRopesWay makes one text in many ways.
func TestTheRopesWay(t *testing.T) {
	d := rand.New(rand.NewSource(410))
	lex := lexOf(t, "[a-c]+", `"[^"]*"`, "@ +", "[a-c]+ +x")
	s := built(t, lex)
	var b []byte
	for len(b) < 6000 {
		b = append(b, `abcabc     "x`[d.Intn(13)])
	}
	text := string(b)
	tokens, leaves := s.Tokens(ropeOf(t, text)), s.Leaves(ropeOf(t, text))
	ropes := []*rope.Rope{crumbs(t, text, 1), crumbs(t, text, 7), crumbs(t, text, 1023), crumbs(t, text, 1025)}
	whole := ropeOf(t, "abc"+text+`"`)
	cut, _ := whole.Cut(3, 3+len(text))
	swapped, _ := ropeOf(t, text[3000:]).Splice(0, 0, []byte(text[:3000]))
	back, _ := ropeOf(t, text).Splice(100, 4000, []byte("   "))
	back, _ = back.Splice(100, 3, []byte(text[100:4100]))
	for i, r := range append(ropes, cut, swapped, back) {
		if !slices.Equal(s.Tokens(r), tokens) || !slices.Equal(s.Leaves(r), leaves) {
			t.Errorf("P410: the rope %d", i)
		}
		for at := 0; at < len(text); at += 1 + d.Intn(40) {
			x, e := s.Token(ropeOf(t, text), at)
			wantToken(t, s, r, at, x, e)
		}
	}
}

// TestFarLooks has texts in which token after token looks up to the end.
func TestFarLooks(t *testing.T) {
	n := 1 << 18
	list := made(t, "a", "a+b").Tokens(ropeOf(t, strings.Repeat("a", n)))
	for i, x := range list {
		if x != tok(0, 1, n-i+1) {
			t.Fatalf("P402: the token %d: %v", i, x)
		}
	}
	if len(list) != n {
		t.Errorf("P403: %d tokens", len(list))
	}
	s := made(t, `\/`, `\*`, "@ +", "[a-z]+", `@\/\*([^*]|\*+[^*\/])*\*+\/`)
	leaves := s.Leaves(ropeOf(t, strings.Repeat("/* a ", n/5)))
	for i := 0; i < len(leaves)-1; i += 3 {
		place := i / 3 * 5
		if want := lf(0, min(i, 1), 1, n/5*5-place+1+min(i, 1)); leaves[i] != want {
			t.Fatalf("P405: the leaf %d: %v, not %v", i, leaves[i], want)
		}
	}
	if len(leaves) != n/5*3+1 {
		t.Errorf("P406: %d leaves", len(leaves))
	}
}

// TestFarLooksInStep has searches that go the same way only if they begin a number of bytes apart.
func TestFarLooksInStep(t *testing.T) {
	for _, c := range []struct {
		rule string
		n    int
	}{{"(aa)+b", 1 << 17}, {"(aaaaaaa)+b", 1 << 17}, {"(a{63})+b", 1 << 16}, {"(a{64})+b", 1 << 16}, {"(a{65})+b", 1 << 16}} {
		list := made(t, "a", c.rule).Tokens(ropeOf(t, strings.Repeat("a", c.n)))
		for i, x := range list {
			if x != tok(0, 1, c.n-i+1) {
				t.Fatalf("P402: %s: the token %d: %v", c.rule, i, x)
			}
		}
		if len(list) != c.n {
			t.Errorf("P403: %s: %d tokens", c.rule, len(list))
		}
	}
}

// TestFarLooksInTheLongest has more to keep in mind than is kept.
func TestFarLooksInTheLongest(t *testing.T) {
	s, r := made(t, "a", "(a{9})+b"), ropeOf(t, strings.Repeat("a", api.MaxRope))
	for i, x := range gone(from(t, s, r, 0), 7) {
		if x.place != i || x.token != tok(0, 1, api.MaxRope-i+1) {
			t.Fatalf("P404: the token %d: %v", i, x)
		}
	}
}

// TestLargest has one token as long as a rope can be, and one more byte.
func TestLargest(t *testing.T) {
	b := []byte(strings.Repeat("a", api.MaxRope))
	s := made(t, "a+", "@b")
	wantTokens(t, s, string(b), tok(0, api.MaxRope, api.MaxRope+1))
	b[api.MaxRope-1] = 'b'
	wantLeaves(t, s, string(b), lf(0, 0, api.MaxRope-1, api.MaxRope), lf(api.KEnd, 1, 0, 2))
	wantToken(t, s, ropeOf(t, string(b)), api.MaxRope-1, tok(1, 1, 2), api.OK)
}

// TestRulesAreNotKept changes the rules behind New's back, down to their trees.
func TestRulesAreNotKept(t *testing.T) {
	lex := lexOf(t, "ab|cd", "@ +", "c")
	s, r := built(t, lex), ropeOf(t, "ab cd  c?")
	copied := fmt.Sprint(lex)
	tokens, leaves := s.Tokens(r), s.Leaves(r)
	if fmt.Sprint(lex) != copied {
		t.Error("P2: the rules were changed")
	}
	seq := from(t, s, r, 0)
	for i := range lex {
		lex[i].Trivia = !lex[i].Trivia
		lex[i].Expr.Min = 7
		for j := range lex[i].Expr.List {
			lex[i].Expr.List[j] = rng('x', 'z')
		}
	}
	if !slices.Equal(s.Tokens(r), tokens) || !slices.Equal(s.Leaves(r), leaves) || len(gone(seq, -1)) != len(tokens) {
		t.Error("P2: the scanner keeps what it was handed")
	}
}

// TestListsAreTheCallers writes over the lists that are told, their spare room too.
func TestListsAreTheCallers(t *testing.T) {
	s, r := chapter(t), ropeOf(t, "12 . ..x 7")
	tokens, leaves := s.Tokens(r), s.Leaves(r)
	x, l := s.Tokens(r), s.Leaves(r)
	for _, list := range [][]api.Token{x, x[len(x):cap(x)]} {
		for i := range list {
			list[i] = tok(9, 9, 9)
		}
	}
	for _, list := range [][]api.Leaf{l, l[len(l):cap(l)]} {
		for i := range list {
			list[i] = lf(9, 9, 9, 9)
		}
	}
	if !slices.Equal(s.Tokens(r), tokens) || !slices.Equal(s.Leaves(r), leaves) {
		t.Error("P2: a list that was told is kept")
	}
	wantTokens(t, s, "12 . ..x 7", tokens...)
}

// TestSideBySide has scanners of unlike rules, and one scanner many times, over one rope.
func TestSideBySide(t *testing.T) {
	text := strings.Repeat("aab a ", 60)
	r := ropeOf(t, text)
	lexes := [][]api.LexRule{lexOf(t, "a+", "b", "@ "), lexOf(t, "@a", "a+b", " +"), lexOf(t)}
	var group sync.WaitGroup
	for _, lex := range lexes {
		s := built(t, lex)
		x, l := tokens(lex, text), leaves(lex, text)
		for range 4 {
			group.Go(func() {
				for range 10 {
					if !slices.Equal(s.Tokens(r), x) || !slices.Equal(s.Leaves(r), l) {
						t.Error("P3: side by side")
					}
				}
			})
		}
	}
	group.Wait()
}
