package expr_test

import (
	"math/rand"
	"strconv"
	"strings"
	"testing"

	"graft/api"
	"graft/expr"
)

func TestTexts(t *testing.T) {
	a, b, c := one('a'), one('b'), one('c')
	for _, x := range []struct {
		text string
		e    api.Expr
	}{
		{"a", a}, {"ab", seq(a, b)}, {"abc", seq(a, b, c)}, {"", seq()}, {"a|", alt(a, seq())}, {"|a", alt(seq(), a)}, {"|", alt(seq(), seq())}, {"a|b|c", alt(a, b, c)}, {"a|bc", alt(a, seq(b, c))},
		{"()", seq()}, {"(a)", a}, {"((a))", a}, {"(ab)", seq(a, b)}, {"(ab)c", seq(seq(a, b), c)}, {"a(bc)", seq(a, seq(b, c))}, {"a()", seq(a, seq())}, {"(a|b)c", seq(alt(a, b), c)}, {"(a|b)|c", alt(alt(a, b), c)}, {"a|(b|c)", alt(a, alt(b, c))},
		{".", rng(0, 255)}, {"..", seq(rng(0, 255), rng(0, 255))}, {"[.]", one('.')}, {"[a-c_]", alt(rng('a', 'c'), one('_'))}, {"[b]", b}, {"[b-b]", b}, {"[ca]", alt(c, a)}, {"[aa]", alt(a, a)}, {"[a-cb]", alt(rng('a', 'c'), b)},
		{"[ -~]", rng(32, 126)}, {"[a^]", alt(a, one('^'))}, {"[!-^]", rng('!', '^')}, {"[^^]", alt(rng(0, '^'-1), rng('^'+1, 255))}, {"[\\^a]", alt(one('^'), a)}, {"[\\n-\\r]", rng(10, 13)}, {"[+\\--~]", alt(one('+'), rng('-', '~'))},
		{"[^\\x00-\\x60b-\\xff]", a}, {"[^\\x00]", rng(1, 255)}, {"[^\\xff]", rng(0, 254)}, {"[^a]", alt(rng(0, 96), rng(98, 255))}, {"[^ca]", alt(rng(0, 96), b, rng(100, 255))}, {"[^\\x00-\\x7f]", rng(128, 255)}, {"[^a-cb-d]", alt(rng(0, 96), rng(101, 255))}, {"[^\\x00\\x02\\xff]", alt(one(1), rng(3, 254))},
		{"a*", rep(0, -1, a)}, {"a+", rep(1, -1, a)}, {"a?", rep(0, 1, a)}, {"a{2}", rep(2, 2, a)}, {"a{2,}", rep(2, -1, a)}, {"a{2,3}", rep(2, 3, a)}, {"a{0}", rep(0, 0, a)}, {"a{0,0}", rep(0, 0, a)}, {"a{1000}", rep(1000, 1000, a)}, {"a{0,1000}", rep(0, 1000, a)}, {"a{1000,}", rep(1000, -1, a)}, {"a{0007,0010}", rep(7, 10, a)},
		{"a**", rep(0, -1, rep(0, -1, a))}, {"a?+", rep(1, -1, rep(0, 1, a))}, {"a{2}{3}", rep(3, 3, rep(2, 2, a))}, {"ab*", seq(a, rep(0, -1, b))}, {"(ab)*", rep(0, -1, seq(a, b))}, {"(ab){0,3}", rep(0, 3, seq(a, b))}, {"()*", rep(0, -1, seq())}, {"(|a)?", rep(0, 1, alt(seq(), a))}, {"[ab]+c", seq(rep(1, -1, alt(a, b)), c)}, {".*", rep(0, -1, rng(0, 255))}, {"\\**", rep(0, -1, one('*'))},
		{"\\n\\r\\t", seq(one(10), one(13), one(9))}, {"\\x41\\xfF\\xAb\\x00", seq(one('A'), one(255), one(0xab), one(0))}, {"\\x4142", seq(one('A'), one('4'), one('2'))}, {"a,-=~ ", seq(a, one(','), one('-'), one('='), one('~'), one(' '))},
		{strings.Repeat("(", 2000) + "a" + strings.Repeat(")", 2000), a}, {strings.Repeat("a", 4095), seq(many(4095, a)...)}, {"a" + strings.Repeat("*", 63), stars(63, a)}, {strings.Repeat("a", 4000) + "{1}" + strings.Repeat("\\n", 45) + "aaa", seq(append(append(many(3999, a), rep(1, 1, a)), append(many(45, one(10)), a, a, a)...)...)},
	} {
		e, f := expr.Parse(x.text)
		if f != (api.Fault{}) || !same(e, x.e) {
			t.Errorf("P204: %.60q: %s %+v, want %s", x.text, brief(e), f, brief(x.e))
		}
	}
}

func stars(n int, e api.Expr) api.Expr {
	for range n {
		e = rep(0, -1, e)
	}
	return e
}

// Each byte by itself, behind a backslash, and in classes.
func TestBytesOfTexts(t *testing.T) {
	for i := range 256 {
		c := string([]byte{byte(i)})
		seen := 32 <= i && i <= 126
		name := seen && (strings.ContainsAny(c, "0123456789") || strings.ToLower(c) != strings.ToUpper(c))
		if !strings.Contains("([|.\\", c) {
			holds(t, c, seen && !strings.Contains("()[]{}.|*+?\\/^$", c), one(i), 0)
		}
		if !strings.Contains("nrtx", c) {
			holds(t, "\\"+c, seen && i != 32 && !name, one(i), 0)
			holds(t, "[\\"+c+"]", seen && i != 32 && !name, one(i), 1)
		}
		if i != '\\' {
			holds(t, "[a"+c+"]", seen && !strings.Contains("]-/", c) || i == ']', alt(one('a'), one(i)), 2)
			holds(t, "["+c+"a]", seen && !strings.Contains("]-/^", c) || i == '^', alt(one(i), one('a')), 1)
			holds(t, "[^"+c+"a]", seen && !strings.Contains("]-/", c), api.Expr{}, 2)
		}
		hex := strconv.FormatInt(int64(256+i), 16)[1:]
		holds(t, "\\x"+hex, true, one(i), 0)
		holds(t, "[\\x"+strings.ToUpper(hex)+"]", true, one(i), 0)
		isHex := strings.Contains("0123456789abcdefABCDEF", c)
		holds(t, "a\\x0"+c, isHex, api.Expr{}, 1)
		holds(t, "a\\x"+c+"0", isHex, api.Expr{}, 1)
	}
}

// holds asks for that pattern, if the text is right (an Expr with nothing in it: whichever), else for ErrPattern at a place.
func holds(t *testing.T, text string, right bool, e api.Expr, at int) {
	t.Helper()
	got, f := expr.Parse(text)
	switch {
	case text == "[a]]" || text == "[a-]" || text == "[^a]": // these are right or wrong for another reason
	case !right && f != (api.Fault{Err: api.ErrPattern, At: at}):
		t.Errorf("P205: %q: %+v, want ErrPattern at %d", text, f, at)
	case right && (f != (api.Fault{}) || e.Kind != 0 && !same(got, e)):
		t.Errorf("P204: %q: %v %+v", text, got, f)
	}
}

func TestFaults(t *testing.T) {
	for _, c := range []struct {
		text string
		err  api.Errno
		at   int
	}{
		{"a{3,2}", api.ErrBraces, 1}, {"a{1001}", api.ErrBraces, 1}, {"a{1001,}", api.ErrBraces, 1}, {"a{0,1001}", api.ErrBraces, 1}, {"a{9999,0}", api.ErrBraces, 1}, {"(a{2}b{3,2}/", api.ErrBraces, 6}, {"a{1}{1,0}", api.ErrBraces, 4}, {"a{1,0}{1", api.ErrBraces, 1}, {"a{1001}*/", api.ErrBraces, 1},
		{"a{", api.ErrEnds, 2}, {"a{1", api.ErrEnds, 3}, {"a{9999", api.ErrEnds, 6}, {"a{9,", api.ErrEnds, 4}, {"a{9,8", api.ErrEnds, 5}, {"a{x}", api.ErrPattern, 2}, {"a{}", api.ErrPattern, 2}, {"a{,2}", api.ErrPattern, 2}, {"a{-1}", api.ErrPattern, 2}, {"a{1x}", api.ErrPattern, 3}, {"a{9999x}", api.ErrPattern, 6}, {"a{2,1x}", api.ErrPattern, 5}, {"a{1,x}", api.ErrPattern, 4}, {"a{1,2,3}", api.ErrPattern, 5}, {"a{1,,}", api.ErrPattern, 4}, {"a{12345}", api.ErrPattern, 6}, {"a{1,12345}", api.ErrPattern, 8}, {"a{ 1}", api.ErrPattern, 2},
		{"(a", api.ErrEnds, 2}, {"(", api.ErrEnds, 1}, {"((a)", api.ErrEnds, 4}, {"(a|", api.ErrEnds, 3}, {"a)", api.ErrPattern, 1}, {")", api.ErrPattern, 0}, {"(a))b", api.ErrPattern, 3}, {"a|b)", api.ErrPattern, 3},
		{"*", api.ErrPattern, 0}, {"+a", api.ErrPattern, 0}, {"?", api.ErrPattern, 0}, {"{1}", api.ErrPattern, 0}, {"a|*", api.ErrPattern, 2}, {"(*a)", api.ErrPattern, 1}, {"(?a)", api.ErrPattern, 1}, {"a|{1}", api.ErrPattern, 2}, {"a}", api.ErrPattern, 1}, {"a]", api.ErrPattern, 1}, {"^a", api.ErrPattern, 0}, {"a$", api.ErrPattern, 1}, {"a/b", api.ErrPattern, 1}, {"a\nb", api.ErrPattern, 1}, {"ab\x7f", api.ErrPattern, 2}, {"\xc3\xa4", api.ErrPattern, 0}, {"a\x00", api.ErrPattern, 1},
		{"[]", api.ErrPattern, 1}, {"[]a]", api.ErrPattern, 1}, {"[", api.ErrEnds, 1}, {"[a", api.ErrEnds, 2}, {"[^", api.ErrEnds, 2}, {"[^a", api.ErrEnds, 3}, {"[a-", api.ErrEnds, 3}, {"[^]", api.ErrPattern, 2}, {"[a-]", api.ErrPattern, 3}, {"[-a]", api.ErrPattern, 1}, {"[^-a]", api.ErrPattern, 2}, {"[a-b-c]", api.ErrPattern, 4}, {"[a--]", api.ErrPattern, 3}, {"[a/]", api.ErrPattern, 2}, {"[a-/]", api.ErrPattern, 3}, {"[a\n]", api.ErrPattern, 2}, {"[a\x00]", api.ErrPattern, 2}, {"x[a\\q]", api.ErrPattern, 3}, {"x[a-\\q]", api.ErrPattern, 4},
		{"[z-a]", api.ErrPattern, 0}, {"xy[bz-a]", api.ErrPattern, 2}, {"[z-a", api.ErrPattern, 0}, {"[z-a/", api.ErrPattern, 0}, {"b[z-\\x41", api.ErrPattern, 1}, {"[z-\\x4", api.ErrEnds, 6}, {"[^z-a]", api.ErrPattern, 0}, {"[ab]x[c-b]", api.ErrPattern, 5}, {"[a-^]", api.ErrPattern, 0},
		{"[^\\x00-\\xff]", api.ErrPattern, 0}, {"ab[^\\x80-\\xff\\x00-\\x7f]", api.ErrPattern, 2}, {"[^\\x00-\\xff", api.ErrEnds, 11}, {"[^\\x00-\\xff/", api.ErrPattern, 11}, {"[^\\x00-\\xff]/", api.ErrPattern, 0}, {"[^\\x00-\\xff-]", api.ErrPattern, 11},
		{"\\q", api.ErrPattern, 0}, {"a\\ ", api.ErrPattern, 1}, {"a\\", api.ErrEnds, 2}, {"\\x", api.ErrEnds, 2}, {"\\x4", api.ErrEnds, 3}, {"\\xg0", api.ErrPattern, 0}, {"a\\x0g", api.ErrPattern, 1}, {"\\xg", api.ErrPattern, 0}, {"\\X41", api.ErrPattern, 0}, {"\\N", api.ErrPattern, 0}, {"\\0", api.ErrPattern, 0}, {"[\\", api.ErrEnds, 2}, {"[\\x", api.ErrEnds, 3}, {"[a-\\x4", api.ErrEnds, 6}, {"a\\\n", api.ErrPattern, 1}, {"\\\xe4", api.ErrPattern, 0}, {"\\\x7f", api.ErrPattern, 0},
		{"(a{1000}){1000}", api.ErrPositions, 0}, {"a{1000}{5}", api.ErrPositions, 0}, {"(a{1000}){1000}/", api.ErrPattern, 15}, {"a" + strings.Repeat("*", 64), api.ErrNest, 0}, {"a" + strings.Repeat("*", 4095), api.ErrNest, 0},
		{strings.Repeat("a", 4096), api.ErrLong, 0}, {strings.Repeat("a", 4097), api.ErrLong, 0}, {"/" + strings.Repeat("a", 4096), api.ErrLong, 0}, {strings.Repeat("a", 4095) + "/", api.ErrPattern, 4095}, {strings.Repeat("|", 4095), api.ErrLong, 0}, {strings.Repeat("(", 4096), api.ErrEnds, 4096},
	} {
		e, f := expr.Parse(c.text)
		if f != (api.Fault{Err: c.err, At: c.at}) || !same(e, api.Expr{}) {
			t.Errorf("P205: %.40q: %+v, want %v at %d", c.text, f, c.err, c.at)
		}
	}
}

// scrap is a text of pieces of patterns, right or wrong.
func scrap(d *rand.Rand) string {
	pieces := []string{"a", "b", "-", "c", "^", "]", "[", "[^", "(", ")", "|", "*", "+", "?", "{", "}", ",", "1", "20", "\\", "\\n", "\\x", "\\x7", "\\x00-\\x62", ".", "/", "$", " ", "\n", "\\]", "a-c", "c-a", "{2}", "{3,4}", "{4,3}", "{1001}"}
	var b strings.Builder
	for range 1 + d.Intn(8) {
		b.WriteString(pieces[d.Intn(len(pieces))])
	}
	return b.String()
}

// What a fault says hangs on what stands ahead of it and at it; what ends too early can be ended; what is right ahead of a wrong byte can be ended without that byte.
func TestFaultsOfFronts(t *testing.T) {
	d := rand.New(rand.NewSource(4))
	rights, wrongs := 0, 0
	for range 30000 {
		text := scrap(d)
		e, f := expr.Parse(text)
		switch f.Err {
		case api.OK:
			rights++
			printed(t, e)
		case api.ErrEnds:
			if f.At != len(text) || !endable(text) {
				t.Fatalf("P205: %q: %+v", text, f)
			}
		case api.ErrPattern, api.ErrBraces:
			wrongs++
			if _, g := expr.Parse(text + scrap(d)); g != f {
				t.Fatalf("P205: %q: %+v, with more behind it %+v", text, f, g)
			}
			if !endable(text[:f.At]) {
				t.Fatalf("P205: %q: %+v, but its front is wrong", text, f)
			}
		}
	}
	if rights < 1000 || wrongs < 1000 {
		t.Errorf("only %d right texts and %d wrong ones", rights, wrongs)
	}
}

// endable tries to end a text, so that its form is right: numbers that may not be are told behind their }.
func endable(text string) bool {
	for _, end := range []string{"", "a]", "]", "00]", "0]", "1}", "}", "00", "0", "a", "~]", "f]", "ff]", "n", "n]", "9999}", "]]"} {
		for n := range 9 {
			_, f := expr.Parse(text + end + strings.Repeat(")", n))
			if f.Err == api.OK || f.Err == api.ErrBraces || f.Err == api.ErrPositions {
				return true
			}
		}
	}
	return false
}

// printed asks P207 of a pattern, and tells its text.
func printed(t *testing.T, e api.Expr) string {
	t.Helper()
	text, err := expr.Print(e)
	back, f := expr.Parse(text)
	if err != api.OK || f != (api.Fault{}) || !same(back, e) {
		t.Fatalf("P207: %s: %q %v, read as %s %+v", brief(e), text, err, brief(back), f)
	}
	return text
}

func TestPrints(t *testing.T) {
	a, b, c := one('a'), one('b'), one('c')
	for _, x := range []struct {
		e    api.Expr
		want string
	}{
		{a, "a"}, {seq(), ""}, {seq(a, b), "ab"}, {rng(0, 255), "."}, {rng(0, 254), "[\\x00-\\xfe]"}, {rng(10, 13), "[\\n-\\r]"}, {rng('a', 'b'), "[a-b]"}, {rng('.', '/'), "[.-\\/]"}, {rng(1, 255), "[\\x01-\\xff]"}, {rng(' ', '~'), "[ -~]"},
		{alt(a, b), "[ab]"}, {alt(a, a), "[aa]"}, {alt(rng('a', 'c'), one('_')), "[a-c_]"}, {alt(rng(0, 255), a), "[\\x00-\\xffa]"}, {alt(one('^'), one('-'), rng('a', 'z')), "[\\^\\-a-z]"}, {alt(a, one('^')), "[a\\^]"}, {alt(one('.'), one('$')), "[.$]"},
		{alt(a, alt(b, c)), "a|[bc]"}, {alt(alt(a, b), c), "[ab]|c"}, {alt(a, seq(b, c)), "a|bc"}, {alt(a, alt(b, seq(a, c))), "a|(b|ac)"}, {alt(seq(), a), "()|a"}, {alt(a, seq()), "a|()"}, {alt(seq(), seq()), "()|()"}, {alt(a, rep(0, -1, b)), "a|b*"},
		{seq(a, seq(b, c)), "a(bc)"}, {seq(seq(a, b), c), "(ab)c"}, {seq(seq(), a), "()a"}, {seq(alt(a, b), c), "[ab]c"}, {seq(alt(a, seq()), c), "(a|())c"}, {seq(rep(0, 1, a), b), "a?b"}, {seq(seq(), seq()), "()()"},
		{rep(0, -1, a), "a*"}, {rep(1, -1, a), "a+"}, {rep(0, 1, a), "a?"}, {rep(1, 1, a), "a{1}"}, {rep(0, 0, a), "a{0}"}, {rep(2, -1, a), "a{2,}"}, {rep(0, 2, a), "a{0,2}"}, {rep(1, 2, a), "a{1,2}"}, {rep(1000, 1000, a), "a{1000}"}, {rep(7, 1000, a), "a{7,1000}"},
		{rep(0, -1, rep(0, -1, a)), "a**"}, {rep(0, 1, seq()), "()?"}, {rep(2, -1, alt(a, seq(b, c))), "(a|bc){2,}"}, {rep(0, -1, alt(a, b)), "[ab]*"}, {rep(0, -1, seq(a, b)), "(ab)*"}, {rep(3, 3, rng(0, 255)), ".{3}"}, {rep(0, 1, rng('a', 'z')), "[a-z]?"},
	} {
		if got := printed(t, x.e); got != x.want {
			t.Errorf("P206: %v: %q, want %q", x.e, got, x.want)
		}
	}
}

func TestBytesOfPrints(t *testing.T) {
	for i := range 256 {
		c := string([]byte{byte(i)})
		escape := "\\x" + strconv.FormatInt(int64(256+i), 16)[1:]
		switch {
		case i == 10:
			escape = "\\n"
		case i == 13:
			escape = "\\r"
		case i == 9:
			escape = "\\t"
		case 33 <= i && i <= 126:
			escape = "\\" + c
		}
		alone, member := escape, escape
		if 32 <= i && i <= 126 && !strings.Contains("()[]{}.|*+?\\/^$", c) {
			alone = c
		}
		if 32 <= i && i <= 126 && !strings.Contains("]\\-/^", c) {
			member = c
		}
		if got := printed(t, one(i)); got != alone {
			t.Errorf("P206: the byte %d: %q, want %q", i, got, alone)
		}
		if got := printed(t, alt(one(i), one('a'))); got != "["+member+"a]" {
			t.Errorf("P206: the byte %d in a class: %q", i, got)
		}
		if i > 0 && i < 255 {
			if got := printed(t, rng(0, i)); got != "[\\x00-"+member+"]" {
				t.Errorf("P206: the byte %d in a range: %q", i, got)
			}
		}
	}
}

func TestLongPrints(t *testing.T) {
	e := seq(append(many(1000, one(0)), seq(many(48, one('a'))...), seq(many(44, one('b'))...))...)
	if text := printed(t, e); len(text) != 4096 {
		t.Errorf("P206: %d bytes", len(text))
	}
	e.List[1001] = seq(many(45, one('b'))...)
	if text, err := expr.Print(e); text != "" || err != api.ErrLong {
		t.Errorf("P206: %d bytes, %v", len(text), err)
	}
	if text, err := expr.Print(seq(many(4095, one('$'))...)); text != "" || err != api.ErrLong {
		t.Errorf("P206: %d bytes, %v", len(text), err)
	}
}

func TestPrintsOfAll(t *testing.T) {
	d := rand.New(rand.NewSource(5))
	trees := map[string]api.Expr{}
	for range 20000 {
		e := some(d, 1+d.Intn(5), true)
		if expr.Check(e) != api.OK {
			continue
		}
		text := printed(t, e)
		if other, ok := trees[text]; ok && !same(other, e) {
			t.Fatalf("P207: %q is the text of %v and of %v", text, other, e)
		}
		trees[text] = e
	}
}
