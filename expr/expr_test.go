package expr_test

import (
	"bytes"
	"math"
	"math/rand"
	"strings"
	"testing"

	"graft/api"
	"graft/expr"
)

// read is the pattern of a right text.
func read(t *testing.T, text string) api.Expr {
	t.Helper()
	e, f := expr.Parse(text)
	if f != (api.Fault{}) {
		t.Fatalf("Parse(%.40q): %+v", text, f)
	}
	return e
}

// nested is e within n repetitions.
func nested(n int, e api.Expr) api.Expr {
	for range n {
		e = rep(0, 1, e)
	}
	return e
}

// many is n times e.
func many(n int, e api.Expr) []api.Expr {
	var list []api.Expr
	for range n {
		list = append(list, e)
	}
	return list
}

// ring is a tree that holds itself.
func ring() api.Expr {
	list := make([]api.Expr, 1)
	list[0] = api.Expr{Kind: api.XRepeat, Max: 1, List: list}
	return list[0]
}

// doubled has two to the power of n leaves, which share their memory.
func doubled(n int) api.Expr {
	e := one('a')
	for range n {
		e = seq(e, e)
	}
	return e
}

func TestPositionsOfRightTrees(t *testing.T) {
	a := one('a')
	for _, c := range []struct {
		e api.Expr
		n int
	}{
		{rng(0, 255), 1}, {rng(0, 0), 1}, {rng(255, 255), 1}, {seq(), 0}, {api.Expr{Kind: api.XSeq, List: []api.Expr{}}, 0},
		{api.Expr{Kind: api.XRange, List: []api.Expr{}}, 1}, {seq(a, a), 2}, {seq(a, a, a), 3}, {alt(a, a), 2}, {alt(a, seq(), seq(a, a)), 3},
		{rep(0, 0, a), 0}, {rep(0, 1, a), 1}, {rep(1, 1, a), 1}, {rep(0, -1, a), 1}, {rep(1, -1, a), 1}, {rep(2, -1, a), 2},
		{rep(0, 1000, a), 1000}, {rep(1000, 1000, a), 1000}, {rep(1000, -1, a), 1000}, {rep(3, 5, alt(a, a)), 10}, {rep(3, -1, seq(a, a)), 6},
		{rep(4, 4, rep(1000, 1000, a)), 4000}, {rep(0, 64, rep(0, 64, a)), 4096}, {seq(rep(0, 64, rep(0, 64, a)), seq()), 4096},
		{rep(0, 0, rep(1000, 1000, rep(1000, 1000, a))), 0}, {rep(1000, 1000, rep(1000, 1000, seq())), 0},
		{seq(many(4095, a)...), 4095}, {nested(63, a), 1}, {doubled(11), 2048},
	} {
		n, err := expr.Positions(c.e)
		if n != c.n || err != api.OK || expr.Check(c.e) != api.OK {
			t.Errorf("P201: %s: %d %v %v, want %d", brief(c.e), n, err, expr.Check(c.e), c.n)
		}
	}
}

func wrongTrees() []api.Expr {
	a := one('a')
	list := []api.Expr{a, a}
	return []api.Expr{
		{}, {Kind: 5}, {Kind: -1}, {Kind: math.MinInt}, {List: list},
		rng(-1, 4), rng(4, 256), rng(4, 3), rng(256, 256), rng(math.MinInt, math.MaxInt),
		{Kind: api.XRange, Min: 1}, {Kind: api.XRange, Max: 1}, {Kind: api.XRange, Max: -1}, {Kind: api.XRange, List: []api.Expr{a}},
		seq(a), {Kind: api.XSeq, List: list, From: 1}, {Kind: api.XSeq, List: list, To: 1}, {Kind: api.XSeq, List: list, Min: 1}, {Kind: api.XSeq, List: list, Max: 1}, {Kind: api.XSeq, Max: -1},
		alt(), alt(a), {Kind: api.XAlt, List: list, From: 1}, {Kind: api.XAlt, List: list, To: 1}, {Kind: api.XAlt, List: list, Min: 1}, {Kind: api.XAlt, List: list, Max: -1},
		{Kind: api.XRepeat}, {Kind: api.XRepeat, List: list}, {Kind: api.XRepeat, List: []api.Expr{a}, From: 1}, {Kind: api.XRepeat, List: []api.Expr{a}, To: 1},
		rep(-1, 1, a), rep(-1, -1, a), rep(2, 1, a), rep(1, 0, a), rep(0, -2, a), rep(0, 1001, a), rep(1001, 1001, a), rep(1001, -1, a), rep(0, math.MaxInt, a), rep(math.MinInt, 0, a),
		seq(a, seq(a)), alt(a, alt(a)), rep(0, 0, api.Expr{}), nested(63, api.Expr{}), seq(a, a, a, rng(9, 8)),
		seq(rep(1000, 1000, rep(1000, 1000, a)), alt(a)),
	}
}

// refuses asks for that error, and nothing beside it, of all calls.
func refuses(t *testing.T, e api.Expr, want api.Errno) {
	t.Helper()
	n, err := expr.Positions(e)
	if n != 0 || err != want || expr.Check(e) != want {
		t.Errorf("P201: %s: %d %v %v, want %v", brief(e), n, err, expr.Check(e), want)
	}
	if expr.Empty(e) {
		t.Errorf("P202: %s is empty", brief(e))
	}
	long := make([]byte, api.MaxText+1)
	m, err1 := expr.Match(e, long)
	l, err2 := expr.Longest(e, long)
	v, err3 := expr.Live(e, nil)
	s, err4 := expr.Shortest(e)
	p, err5 := expr.Print(e)
	if m || l != 0 || v || len(s) > 0 || p != "" || err1 != want || err2 != want || err3 != want || err4 != want || err5 != want {
		t.Errorf("P203: %s: %v %d %v %q %q, %v %v %v %v %v, want %v", brief(e), m, l, v, s, p, err1, err2, err3, err4, err5, want)
	}
}

func TestWrongTrees(t *testing.T) {
	for _, e := range wrongTrees() {
		refuses(t, e, api.ErrExpr)
	}
}

func TestGreatTrees(t *testing.T) {
	a := one('a')
	for _, c := range []struct {
		e    api.Expr
		want api.Errno
	}{
		{seq(many(4096, a)...), api.ErrLong}, {api.Expr{List: make([]api.Expr, 4096)}, api.ErrLong}, {api.Expr{List: make([]api.Expr, 4095)}, api.ErrExpr},
		{api.Expr{List: make([]api.Expr, 1<<20)}, api.ErrLong}, {ring(), api.ErrLong}, {doubled(12), api.ErrLong}, {doubled(60), api.ErrLong}, {nested(4096, a), api.ErrLong},
		{nested(4095, a), api.ErrNest}, {nested(64, a), api.ErrNest}, {nested(64, api.Expr{}), api.ErrNest}, {seq(a, nested(63, a)), api.ErrNest}, {seq(nested(70, a), api.Expr{}), api.ErrNest},
		{seq(seq(many(4029, a)...), nested(64, a)), api.ErrNest}, {seq(seq(many(4030, a)...), nested(64, a)), api.ErrLong}, {seq(nested(64, a), seq(many(4030, a)...)), api.ErrLong},
		{rep(4, 5, rep(1000, 1000, a)), api.ErrPositions}, {rep(0, 64, seq(rep(0, 64, a), a)), api.ErrPositions}, {seq(rep(64, 64, rep(64, 64, a)), a), api.ErrPositions},
		{nestedTimes(60, a), api.ErrPositions}, {alt(seq(), nestedTimes(60, a)), api.ErrPositions},
	} {
		refuses(t, c.e, c.want)
	}
}

// nestedTimes is e a thousand times a thousand times and so on.
func nestedTimes(n int, e api.Expr) api.Expr {
	for range n {
		e = rep(1000, 1000, e)
	}
	return e
}

func TestEmpty(t *testing.T) {
	a := one('a')
	for _, c := range []struct {
		e    api.Expr
		want bool
	}{
		{a, false}, {seq(), true}, {seq(a, a), false}, {seq(seq(), a), false}, {seq(rep(0, 1, a), rep(0, -1, a)), true}, {alt(a, a), false}, {alt(a, seq()), true}, {alt(seq(), a), true},
		{rep(0, 0, a), true}, {rep(0, 3, a), true}, {rep(1, 3, a), false}, {rep(1, -1, a), false}, {rep(2, 2, alt(a, seq())), true}, {nestedTimes(60, seq()), true}, {rep(0, 0, nestedTimes(60, a)), true},
	} {
		if expr.Empty(c.e) != c.want {
			t.Errorf("P202: %s: %v", brief(c.e), !c.want)
		}
	}
}

func TestMatchesOfTheChapter(t *testing.T) {
	for _, c := range []struct {
		text, b string
		longest int
		live    bool
	}{
		{"a*", "aab", 2, false}, {"a+b", "aac", -1, false}, {"(ab)*", "aba", 2, true}, {"a{2}b", "aa", -1, true}, {"a{2}b", "aaa", -1, false},
		{"", "", 0, true}, {"", "a", 0, false}, {"a", "", -1, true}, {"a{0}", "a", 0, false}, {"a|ab|abcd", "abcx", 2, false}, {"a|ab|abcd", "abc", 2, true},
		{".", "\x00", 1, true}, {".", "\xff", 1, true}, {"[b-d]", "a", -1, false}, {"[b-d]", "b", 1, true}, {"[b-d]", "d", 1, true}, {"[b-d]", "e", -1, false}, {"[^a]", "a", -1, false},
		{"a{2,3}", "aaaa", 3, false}, {"a{2,3}", "a", -1, true}, {"a{2,}", "aaaa", 4, true}, {"(a|b)*abb", "abababb", 7, true}, {"(a*)*", "aaa", 3, true}, {"(a*)+b", "aaa", -1, true},
		{"(a?){3}", "aaaa", 3, false}, {"(ab?){2,}", "abaab", 5, true}, {"(a{0,2}b){2}", "aabb", 4, true}, {"(a{0,2}b){2}", "aaa", -1, false},
		{"()*", "a", 0, false}, {"(()|a){2}b", "aab", 3, true}, {"(()|()|a|())b", "b", 1, true},
	} {
		b := []byte(c.b)
		e := read(t, c.text)
		n, err1 := expr.Longest(e, b)
		live, err2 := expr.Live(e, b)
		match, err3 := expr.Match(e, b)
		if n != c.longest || live != c.live || match != (n == len(b)) || err1 != api.OK || err2 != api.OK || err3 != api.OK {
			t.Errorf("P203: %q of %q: %d %v %v, %v %v %v", c.b, c.text, n, live, match, err1, err2, err3)
		}
	}
}

func TestMatchesOfTheModel(t *testing.T) {
	d := rand.New(rand.NewSource(2))
	for range 50000 {
		e := some(d, 1+d.Intn(5), false)
		if expr.Check(e) != api.OK {
			continue
		}
		kept := copied(e)
		b := make([]byte, d.Intn(9))
		for i := range b {
			b[i] = byte('a' + d.Intn(3))
		}
		text := string(b)
		want := longest(e, text)
		n, _ := expr.Longest(e, b)
		live, _ := expr.Live(e, b)
		match, _ := expr.Match(e, b)
		if n != want || live != lives(e, text, places{true}) || match != ends(e, text, places{true})[len(b)] {
			t.Fatalf("P203, P208: %q of %s: %d %v %v, want %d", b, brief(e), n, live, match, want)
		}
		if expr.Empty(e) != ends(e, "", places{true})[0] {
			t.Fatalf("P202: %v", e)
		}
		short, err := expr.Shortest(e)
		if row, ok := least(e); err != api.OK || ok && string(short) != row || !ok && len(short) <= 4 {
			t.Fatalf("P203: the shortest of %v: %q %v, want %q", e, short, err, row)
		}
		if ok, _ := expr.Match(e, short); !ok {
			t.Fatalf("P208: %v does not match its shortest %q", e, short)
		}
		if !same(e, kept) || string(b) != text {
			t.Fatalf("P2: %v was %v, %q was %q", e, kept, b, text)
		}
	}
}

func TestLongBytes(t *testing.T) {
	all := bytes.Repeat([]byte("ab"), api.MaxText/2)
	more := append(all, 'a')
	e := read(t, "(ab)*")
	if n, err := expr.Longest(e, all); n != api.MaxText || err != api.OK {
		t.Errorf("P203: %d %v", n, err)
	}
	if n, err := expr.Longest(e, more); n != 0 || err != api.ErrLong {
		t.Errorf("P203: %d %v", n, err)
	}
	if ok, err := expr.Match(e, more); ok || err != api.ErrLong {
		t.Errorf("P203: %v %v", ok, err)
	}
	if ok, err := expr.Live(e, more); ok || err != api.ErrLong {
		t.Errorf("P203: %v %v", ok, err)
	}
	if ok, err := expr.Live(e, all); !ok || err != api.OK {
		t.Errorf("P203: %v %v", ok, err)
	}
}

// A pattern with more sets than a run keeps in mind.
func TestManySets(t *testing.T) {
	d := rand.New(rand.NewSource(3))
	b := make([]byte, 40000)
	for i := range b {
		b[i] = byte('a' + d.Intn(2))
	}
	e := read(t, "(a|b)*a(a|b){14}")
	for n := len(b); n > len(b)-8; n-- {
		match, _ := expr.Match(e, b[:n])
		if match != (b[n-15] == 'a') {
			t.Fatalf("P203: %d bytes: %v", n, match)
		}
		got, _ := expr.Longest(e, b[:n])
		if want := bytes.LastIndexByte(b[:n-14], 'a') + 15; got != want {
			t.Fatalf("P203: of %d bytes %d, want %d", n, got, want)
		}
	}
}

// Patterns with as many positions as may be, which lie behind and beside one another in all ways.
func TestManyPositions(t *testing.T) {
	as := bytes.Repeat([]byte("a"), 5000)
	for _, c := range []struct {
		text    string
		longest int
	}{
		{"(a{64}){64}", 4096}, {"(a{64}){0,64}", 4096}, {"(a{0,64}){0,64}", 4096}, {"(a?){1000}{4}", 4000}, {"((a?){1000}{4})*", 5000}, {"(a{1000}){4,}", 5000}, {"(a{1000}b?){4}", 4000},
		{"(a{31}|b){128}", 31 * 128}, {"(a{1000}){4}b", -1}, {"(aa){2,}", 5000}, {"((aa){2}){1,3}", 12}, {"([a-c]{1000}){3}(a|b{9}){96}", 3096},
	} {
		n, err := expr.Longest(read(t, c.text), as)
		if n != c.longest || err != api.OK {
			t.Errorf("P203: %q: %d %v, want %d", c.text, n, err, c.longest)
		}
	}
}

// Parts without positions match the empty row alone, however often they are there.
func TestNoPositions(t *testing.T) {
	a, b := one('a'), one('b')
	none := nestedTimes(60, seq())
	off := rep(0, 0, nestedTimes(60, a))
	for _, c := range []struct {
		e    api.Expr
		text string
		want int
	}{
		{none, "a", 0}, {off, "a", 0}, {rep(1000, -1, none), "a", 0}, {nestedTimes(60, seq(seq(), seq())), "a", 0}, {nestedTimes(60, alt(seq(), rep(0, 0, a))), "a", 0}, {seq(none, a, off), "aa", 1}, {alt(b, none), "a", 0}, {alt(b, none), "b", 1}, {alt(off, none, a, none), "aa", 1}, {seq(alt(off, none), b), "b", 1},
		{rep(1000, 1000, alt(many(3000, seq())...)), "a", 0}, {rep(64, 64, alt(append(many(4000, seq()), rep(64, 64, a))...)), strings.Repeat("a", 130), 128}, {rep(3, 1000, seq(append(many(4000, seq()), a)...)), "aaaa", 4}, {rep(3, 1000, seq(append(many(4000, seq()), a)...)), "aa", -1},
	} {
		if n, err := expr.Longest(c.e, []byte(c.text)); n != c.want || err != api.OK {
			t.Errorf("P203: %s of %q: %d %v, want %d", brief(c.e), c.text, n, err, c.want)
		}
	}
}

func TestShortest(t *testing.T) {
	for _, c := range []struct{ text, want string }{
		{"b|a|aa", "a"}, {"[x-z]{2}(c|b)", "xxb"}, {"", ""}, {"a*", ""}, {"a{0}b", "b"}, {"a{3,}", "aaa"}, {"(bb|ab|c)d", "cd"}, {"(bb|ab|ba)d", "abd"}, {"b|\\xff", "b"}, {"\\xff|\\x80", "\x80"},
		{"(a{1000}){0}", ""}, {"(ab|b{2}){2}", "abab"}, {"(a{64}){64}", strings.Repeat("a", 4096)}, {".", "\x00"},
	} {
		b, err := expr.Shortest(read(t, c.text))
		if string(b) != c.want || err != api.OK {
			t.Errorf("P203: %q: %q %v, want %q", c.text, b, err, c.want)
		}
	}
	if b, err := expr.Shortest(rep(0, 0, nestedTimes(60, one('a')))); len(b) != 0 || err != api.OK {
		t.Errorf("P203: %q %v", b, err)
	}
	if b, err := expr.Shortest(nestedTimes(60, seq())); len(b) != 0 || err != api.OK {
		t.Errorf("P203: %q %v", b, err)
	}
}

func TestAnswersAreNew(t *testing.T) {
	e := read(t, "(ab|cd){2}")
	a, _ := expr.Shortest(e)
	clear(a[:cap(a)])
	if b, _ := expr.Shortest(e); string(b) != "abab" {
		t.Errorf("P2: %q", b)
	}
	clear(e.List[0].List)
	if f := read(t, "(ab|cd){2}"); !same(f, rep(2, 2, alt(seq(one('a'), one('b')), seq(one('c'), one('d'))))) {
		t.Errorf("P2: %v", f)
	}
}
