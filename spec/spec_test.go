package spec_test

import (
	"fmt"
	"math/rand"
	"reflect"
	"strings"
	"testing"

	"graft/api"
	"graft/expr"
	"graft/spec"
)

const ten = "token num = /[0-9]+/; token plus = /\\+/; token semi = /;/; skip ws = / +/; start L; L = L S | ; S = E semi | error semi; E = E plus T | T; T = num;"

func term(n int) api.Sym { return api.Sym{Kind: api.STerminal, N: n} }

func name(n int) api.Sym { return api.Sym{Kind: api.SName, N: n} }

var fails = api.Sym{Kind: api.SError}

func prod(left int, right ...api.Sym) api.Production {
	return api.Production{Left: left, Right: right}
}

func rule(t *testing.T, name, pattern string, trivia bool) api.LexRule {
	t.Helper()
	e, f := expr.Parse(pattern)
	if f.Err != api.OK {
		t.Fatalf("%s: %+v", pattern, f)
	}
	return api.LexRule{Name: name, Trivia: trivia, Expr: e}
}

// plain tells all of a spec; nil and empty lists alike.
func plain(s api.Spec) string { return fmt.Sprintf("%+v", s) }

func wantSpec(t *testing.T, text string, want api.Spec) {
	t.Helper()
	if got, f := spec.Parse(text); f != (api.Fault{}) || plain(got) != plain(want) {
		t.Errorf("P601: %q: %+v %+v, not %+v", text, got, f, want)
	}
}

// wantFault asks for a fault, and no spec beside it.
func wantFault(t *testing.T, text string, err api.Errno, at int, name string) {
	t.Helper()
	got, f := spec.Parse(text)
	if want := (api.Fault{Err: err, At: at, Name: name}); f != want || !reflect.DeepEqual(got, api.Spec{}) {
		t.Errorf("P601: %.200q (%d bytes): %+v %+v, not %+v", text, len(text), plain(got), f, want)
	}
}

func right(t *testing.T, text string) api.Spec {
	t.Helper()
	s, f := spec.Parse(text)
	if f != (api.Fault{}) {
		t.Fatalf("P601: %.200q (%d bytes): %+v", text, len(text), f)
	}
	return s
}

func TestTheTenExamplesSpec(t *testing.T) {
	wantSpec(t, ten, api.Spec{
		Lex:   []api.LexRule{rule(t, "num", "[0-9]+", false), rule(t, "plus", `\+`, false), rule(t, "semi", ";", false), rule(t, "ws", " +", true)},
		Names: []string{"L", "S", "E", "T"},
		Productions: []api.Production{
			prod(0, name(0), name(1)), prod(0), prod(1, name(2), term(2)), prod(1, fails, term(2)),
			prod(2, name(2), term(1), name(3)), prod(2, name(3)), prod(3, term(0)),
		},
	})
}

func TestExamples(t *testing.T) {
	wantFault(t, "", api.ErrStart, 0, "")
	wantFault(t, "start A;", api.ErrUnknown, 6, "A")
	wantSpec(t, "start A; A = ;", api.Spec{Names: []string{"A"}, Productions: []api.Production{prod(0)}})
	wantFault(t, "token a = /b;", api.ErrSlash, 10, "")
	wantFault(t, "token a = /(/;", api.ErrSlash, 12, "")
	wantFault(t, "token a = /x/; token a = /y/;", api.ErrTwice, 21, "a")
	wantFault(t, "token error = /x/;", api.ErrSpec, 6, "")
	wantFault(t, "A = token;", api.ErrSpec, 4, "")
	wantFault(t, "A = b", api.ErrSpec, 5, "")
	wantFault(t, "start A; start A;", api.ErrStart, 9, "")
	wantFault(t, "A = B; start A;", api.ErrUnknown, 4, "B")
	wantSpec(t, "start S; S = x | ; token x = /x/; // done", api.Spec{
		Lex: []api.LexRule{rule(t, "x", "x", false)}, Names: []string{"S"}, Productions: []api.Production{prod(0, term(0)), prod(0)},
	})
	wantSpec(t, "A = error A | error; start A;", api.Spec{Names: []string{"A"}, Productions: []api.Production{prod(0, fails, name(0)), prod(0, fails)}})
	for pattern, want := range map[string]string{"//": "", `/\//`: `\/`} {
		wantSpec(t, "token a = "+pattern+"; start A; A=;", api.Spec{Lex: []api.LexRule{rule(t, "a", want, false)}, Names: []string{"A"}, Productions: []api.Production{prod(0)}})
	}
}

// TestOrders has rules, names and productions in the order of the text, and words ahead of what they name.
func TestOrders(t *testing.T) {
	wantSpec(t, "C = b A; skip b = /b/; A = C | a error b; start A; token a = /a/;", api.Spec{
		Lex: []api.LexRule{rule(t, "b", "b", true), rule(t, "a", "a", false)}, Names: []string{"C", "A"}, Start: 1,
		Productions: []api.Production{prod(0, term(0), name(1)), prod(1, name(0)), prod(1, term(1), fails, term(0))},
	})
	wantSpec(t, "A = | | A A | ; B = ; start B;", api.Spec{
		Names: []string{"A", "B"}, Start: 1, Productions: []api.Production{prod(0), prod(0), prod(0, name(0), name(0)), prod(0), prod(1)},
	})
	wantSpec(t, "_ = tokens Start _0a Error; start _; tokens = ; Start = ; _0a = ; Error = ;", api.Spec{
		Names:       []string{"_", "tokens", "Start", "_0a", "Error"},
		Productions: []api.Production{prod(0, name(1), name(2), name(3), name(4)), prod(1), prod(2), prod(3), prod(4)},
	})
}

// TestWhatMayNotStand has a wrong token or byte at each place of a statement.
func TestWhatMayNotStand(t *testing.T) {
	for _, c := range []struct {
		text string
		at   int
	}{
		{";", 0}, {"=", 0}, {"|", 0}, {"1a = ;", 0}, {"?", 0}, {"\x00", 0}, {"\x80", 0}, {"/", 0}, {"/x/", 0}, {"/ /", 0}, {" /*", 1}, {"error = ;", 0}, {"\x0b", 0}, {"\x0c", 0}, {"é", 0},
		{"token", 5}, {"token ", 6}, {"token // x", 10}, {"token = /x/;", 6}, {"token ;", 6}, {"token 1", 6}, {"token token = /x/;", 6}, {"token skip = /x/;", 6}, {"skip start = /x/;", 5}, {"skip error", 5},
		{"token a", 7}, {"token a /x/;", 8}, {"token a ; ", 8}, {"token a b = /x/;", 8}, {"token a | /x/;", 8}, {"token a /", 8},
		{"token a =", 9}, {"token a = ", 10}, {"token a = b;", 10}, {"token a = ;", 10}, {"token a = = /x/;", 10}, {"token a = |", 10}, {"token a = 7", 10},
		{"token a = /x/", 13}, {"token a = /x/ ", 14}, {"token a = /x/ b;", 14}, {"token a = /x//y/;", 13}, {"token a = /x///y/;", 18}, {"token a = /x/ /y/;", 14}, {"token a = /x/ | /y/;", 14}, {"token a = /x/=", 13}, {"token a = /x/ // y", 18},
		{"token a = // x\n/x/;", 13}, {"token a = //", 12}, {"token a = ///", 12}, {"token a = ////", 14},
		{"start", 5}, {"start ;", 6}, {"start =", 6}, {"start start;", 6}, {"start error;", 6}, {"start token;", 6}, {"start 5;", 6}, {"start A", 7}, {"start A B;", 8}, {"start A = ;", 8}, {"start A | ;", 8},
		{"A", 1}, {"A;", 1}, {"A B", 2}, {"A | B;", 2}, {"A // =", 6}, {"A /", 2}, {"A:=B;", 1},
		{"A =", 3}, {"A = ", 4}, {"A = =", 4}, {"A = B =", 6}, {"A = /x/;", 4}, {"A = B /x/;", 6}, {"A = | =;", 6}, {"A = B | ", 8}, {"A = B | C", 9}, {"A = B 1;", 6}, {"A = skip;", 4}, {"A = B | start;", 8}, {"A = B token", 6}, {"A = ';'", 4},
		{"A = B;;", 6}, {"A = B; =", 7}, {"A = B; error", 7},
	} {
		wantFault(t, c.text, api.ErrSpec, c.at, "")
	}
}

func TestBytesThatBeginNoToken(t *testing.T) {
	for c := range 256 {
		b := string([]byte{byte(c)})
		if strings.Contains("\t\n\r ABCDEFGHIJKLMNOPQRSTUVWXYZabcdefghijklmnopqrstuvwxyz_0123456789=|;", b) {
			continue
		}
		wantFault(t, "A = B"+b+" C;", api.ErrSpec, 5, "")
		wantFault(t, b+"A = ;", api.ErrSpec, 0, "")
		wantFault(t, "start A; A = ;"+b, api.ErrSpec, 14, "")
	}
}

func TestBlanksAndComments(t *testing.T) {
	want := right(t, "token a=/ x /;start A;A=a|;")
	for _, text := range []string{
		"token\ta\n=\r/ x / ; start A ; A = a | ;", "\n\n token a = / x /; start\r\nA; A = a|; \t",
		"// a\n//\n///\ntoken// =\n a // ; token\n= \n\r\t / x /// /x/\n;//\nstart//\nA//\n;A//A\n=//|\na//\n|//\n;//", "token a=/ x /;start A;A=a|;//\x00\xff",
	} {
		wantSpec(t, text, want)
	}
	for _, text := range []string{"//", "// start A;", "//\n", " \t\r\n", "// a\r start A;"} {
		wantFault(t, text, api.ErrStart, len(text), "")
	}
	wantFault(t, "start A; // A = ;", api.ErrUnknown, 6, "A")
	wantFault(t, "token a = \n // x\n /x/;", api.ErrSpec, 15, "")
}

func TestStart(t *testing.T) {
	wantFault(t, "A = ;", api.ErrStart, 5, "")
	wantFault(t, "A = B; ", api.ErrStart, 7, "") // ahead of what B names
	wantFault(t, "A = ; start A; start", api.ErrStart, 15, "")
	wantFault(t, "start A; start ?", api.ErrStart, 9, "")
	wantFault(t, "start A; ? start A;", api.ErrSpec, 9, "")
	wantFault(t, "start A; A = ; start B; A = ;", api.ErrStart, 15, "")
	wantFault(t, "start a; token a = /x/;", api.ErrUnknown, 6, "a")
	wantFault(t, "skip a = /x/; start a; ", api.ErrUnknown, 20, "a")
	wantFault(t, "start A; B = C;", api.ErrUnknown, 6, "A")
	wantFault(t, "B = C; start A;", api.ErrUnknown, 4, "C")
	wantFault(t, "B = B error | b C; start A; token b = /x/;", api.ErrUnknown, 16, "C")
	wantFault(t, "start A; A = A | a | A;", api.ErrUnknown, 17, "a")
	wantFault(t, "start A; A = end;", api.ErrUnknown, 13, "end")
}

func TestTwice(t *testing.T) {
	wantFault(t, "A = ; A = ;", api.ErrTwice, 6, "A")
	wantFault(t, "A = ; A", api.ErrTwice, 6, "A")
	wantFault(t, "A = ; A ?", api.ErrTwice, 6, "A")
	wantFault(t, "token a = /x/; a = ;", api.ErrTwice, 15, "a")
	wantFault(t, "a = ; skip a = /x/;", api.ErrTwice, 11, "a")
	wantFault(t, "skip a = /x/; token a /", api.ErrTwice, 20, "a")
	wantFault(t, "A = ; B = ; start A; A = A;", api.ErrTwice, 21, "A")
	wantFault(t, "A = B B; start B; B = ; B = C;", api.ErrTwice, 24, "B")
	right(t, "A = a; a = ; start A;")
}

func TestSlashes(t *testing.T) {
	for text, at := range map[string]int{
		"/": 10, "/x": 10, "/x;": 10, `/\/`: 10, `/\/;`: 10, `/x\`: 10, "/x\n/;": 10, "/\n": 10, "/x\\\n/;": 10, "/x\\\n": 10, "/[\n]/ ?": 10, "/(\n/ ?": 10, `/\\\/;`: 10,
		"/x)/": 12, "/*/;": 11, "/a{3,2}/": 12, "/ab[]/": 14, "/[z-a]/": 11, "/[a-]/": 14, `/\q/`: 11, "/a{/": 13, "/(a{1000}){1000}/": 11, "/x(y/ ?": 14, "/\x80/": 11, "/a\r/": 12, "/a\t/;": 12, `/\\(/`: 14, `/[/]/`: 12, `/[\/]*(\//`: 19,
		"/" + strings.Repeat("a", api.MaxPattern+1) + "/": 11, "/" + strings.Repeat("a", api.MaxPattern) + "/": 11,
	} {
		wantFault(t, "token a = "+text, api.ErrSlash, at, "")
		wantFault(t, "skip a =  "+text, api.ErrSlash, at, "")
	}
	for text, pattern := range map[string]string{`/\\/`: `\\`, `/[\/]/`: `[\/]`, `/\/\//`: `\/\/`, `/;|=/`: `;|=`, `/\x0a/`: `\n`, `/\n/`: `\n`, "/token/": "token", "/a| /": "a| ", "/()/": "", "/a*/": "a*"} {
		s := right(t, "A = ; start A; skip s = /x/; token r ="+text+";")
		if want := rule(t, "r", pattern, false); len(s.Lex) != 2 || !reflect.DeepEqual(s.Lex[1], want) {
			t.Errorf("P601: %s: %+v, not %+v", text, s.Lex, want)
		}
	}
}

// many joins n texts, made of their numbers.
func many(n int, make func(i int) string) string {
	var b strings.Builder
	for i := range n {
		b.WriteString(make(i))
	}
	return b.String()
}

func TestLongWords(t *testing.T) {
	long, longer := strings.Repeat("x", api.MaxName), strings.Repeat("x", api.MaxName+1)
	s := right(t, "token "+long+" = /x/; start A; A = "+long+";")
	if s.Lex[0].Name != long {
		t.Errorf("P601: %+v", s)
	}
	right(t, "start "+long+"; "+long+" = "+long+";")
	huge := strings.Repeat("x", 5000)
	for _, word := range []string{longer, huge} {
		wantFault(t, "token "+word+" ?", api.ErrLong, 6, long)
		wantFault(t, "skip "+word+" = /x/;", api.ErrLong, 5, long)
		wantFault(t, "start "+word+";", api.ErrLong, 6, long)
		wantFault(t, word+" ?", api.ErrLong, 0, long)
		wantFault(t, "A = "+word+";", api.ErrLong, 4, long)
		wantFault(t, "A = A | A "+word+" ?", api.ErrLong, 10, long)
		wantFault(t, long+" = ; "+word+" = ;", api.ErrLong, 69, long)
		wantFault(t, "A "+word, api.ErrSpec, 2, "") // it may not stand there
		wantFault(t, "start A "+word, api.ErrSpec, 8, "")
		wantFault(t, "token a "+word, api.ErrSpec, 8, "")
		wantFault(t, "token a = "+word, api.ErrSpec, 10, "")
		wantFault(t, "token a = /x/ "+word, api.ErrSpec, 14, "")
	}
	keyword := "token" + strings.Repeat("_", 60)
	wantFault(t, keyword+" a = /x/;", api.ErrLong, 0, keyword[:64])
}

func TestTooMany(t *testing.T) {
	rules := many(64, func(i int) string { return fmt.Sprintf("%s t%d = /x/; ", []string{"token", "skip"}[i%2], i) })
	names := many(128, func(i int) string { return fmt.Sprintf("N%d = ; ", i) })
	sides := "A =" + strings.Repeat(" A |", 511)
	row := strings.Repeat(" A", 16)
	if s := right(t, rules+names+"start N127;"); len(s.Lex) != 64 || len(s.Names) != 128 || s.Start != 127 {
		t.Errorf("P601: %d rules, %d names", len(s.Lex), len(s.Names))
	}
	if s := right(t, sides+" A; start A;"); len(s.Productions) != 512 {
		t.Errorf("P601: %d productions", len(s.Productions))
	}
	if s := right(t, sides+"; start A;"); len(s.Productions) != 512 {
		t.Errorf("P601: %d productions", len(s.Productions))
	}
	if s := right(t, "start A; A ="+row+" |"+row+";"); len(s.Productions[1].Right) != 16 {
		t.Errorf("P601: %+v", s)
	}
	long := strings.Repeat("x", 65)
	for _, c := range []struct {
		ahead, behind string
		err           api.Errno
		off           int
		name          string
	}{
		{rules, "token a = /x/;", api.ErrLong, 0, ""}, {rules, "skip ?", api.ErrLong, 0, ""}, {rules, "token t0 = /x/;", api.ErrLong, 0, ""}, {rules, "token", api.ErrLong, 0, ""}, {rules, "? token", api.ErrSpec, 0, ""}, {rules, "t0 = ;", api.ErrTwice, 0, "t0"},
		{names, "A = ;", api.ErrLong, 0, ""}, {names, "A ?", api.ErrLong, 0, ""}, {names, "N5 = ;", api.ErrTwice, 0, "N5"}, {names, "error = ;", api.ErrSpec, 0, ""}, {names, long, api.ErrLong, 0, long[:64]}, {names, "token N5", api.ErrTwice, 6, "N5"},
		{sides + " A |", " A; start A;", api.ErrLong, 1, ""}, {sides + " A |", " ;", api.ErrLong, 1, ""}, {sides + " A |", "|", api.ErrLong, 0, ""}, {sides + " A |", " ?", api.ErrSpec, 1, ""}, {sides + " A |", " skip", api.ErrSpec, 1, ""}, {sides + " A |", "", api.ErrSpec, 0, ""}, {sides + " A |", long, api.ErrLong, 0, long[:64]}, {sides + " A |", " error", api.ErrLong, 1, ""},
		{sides + " A; ", "B = C", api.ErrLong, 4, ""}, {sides + " A; ", "B = ;", api.ErrLong, 4, ""}, {sides + " A; ", "B ;", api.ErrSpec, 2, ""}, {sides + " A; ", "A = ;", api.ErrTwice, 0, "A"},
		{"A =" + row, " A", api.ErrLong, 1, ""}, {"A = |" + row, " error;", api.ErrLong, 1, ""}, {"A =" + row, " start", api.ErrSpec, 1, ""}, {"A =" + row, " " + long, api.ErrLong, 1, long[:64]}, {"A =" + row, " 1", api.ErrSpec, 1, ""},
	} {
		wantFault(t, c.ahead+c.behind, c.err, len(c.ahead)+c.off, c.name)
	}
}

func TestLongTexts(t *testing.T) {
	text := "start A; A = ;"
	pad := strings.Repeat(" ", api.MaxSpec-len(text))
	right(t, text+pad)
	right(t, pad+text)
	wantFault(t, text+pad+" ", api.ErrLong, 0, "")
	wantFault(t, strings.Repeat("?", api.MaxSpec+1), api.ErrLong, 0, "")
	wantFault(t, strings.Repeat("?", api.MaxSpec), api.ErrSpec, 0, "")
	wantFault(t, strings.Repeat("/", api.MaxSpec), api.ErrStart, api.MaxSpec, "")
	wantFault(t, strings.Repeat("a", api.MaxSpec), api.ErrLong, 0, strings.Repeat("a", 64))
	wantFault(t, "token a = /"+strings.Repeat(`\`, api.MaxSpec-11), api.ErrSlash, 10, "")
}

// tokens are what texts are made of here; the right ones come more often.
func someToken(d *rand.Rand) string {
	list := []string{"token", "skip", "start", "error", "=", "=", "|", ";", ";", "/x/", "/a+/", "/(/", "//", "// c\n", "/", "?", "a", "a", "b", "A", "A", "B", "C", "\n", "  ", "7", strings.Repeat("q", 64+d.Intn(2)), "/\n/", `/\//`, "\x80"}
	return list[d.Intn(len(list))]
}

// someStatement is a right one, but for names that stand twice or name nothing.
func someStatement(d *rand.Rand) string {
	name := func() string { return []string{"a", "b", "c", "A", "B", "C", "D"}[d.Intn(7)] }
	pattern := []string{"x", "", "[a-z]+", `\/`, "(a|b)*"}[d.Intn(5)]
	switch d.Intn(7) {
	case 0:
		return "token " + name() + " = /" + pattern + "/ ; "
	case 1:
		return "skip " + name() + " = /" + pattern + "/ ; "
	case 2:
		return "start " + name() + " ; "
	}
	return name() + " =" + many(d.Intn(4), func(int) string { return " " + []string{name(), name(), "error", "|"}[d.Intn(4)] }) + " ; "
}

func wantModelled(t *testing.T, text string) bool {
	t.Helper()
	want, f := modelled(text)
	if f != (api.Fault{}) {
		wantFault(t, text, f.Err, f.At, f.Name)
		return false
	}
	wantSpec(t, text, want)
	return true
}

// TestAgainstTheModel holds right texts, texts with a piece changed, and rows of tokens against another reading.
func TestAgainstTheModel(t *testing.T) {
	d := rand.New(rand.NewSource(601))
	taken := 0
	for range 30000 {
		text := many(d.Intn(6), func(int) string { return someStatement(d) })
		if wantModelled(t, text) {
			taken++
		}
		words := strings.SplitAfter(text, " ")
		switch i := d.Intn(len(words)); d.Intn(4) {
		case 0:
			words[i] = someToken(d) + " "
		case 1:
			words[i] += someToken(d)
		case 2:
			words[i] = ""
		case 3:
			words = words[:i]
		}
		wantModelled(t, strings.Join(words, ""))
		wantModelled(t, many(d.Intn(12), func(int) string { return someToken(d) }))
	}
	if taken < 300 {
		t.Errorf("only %d texts are right: the test tells little", taken)
	}
}

// TestEveryFront has all fronts of a right text.
func TestEveryFront(t *testing.T) {
	for _, text := range []string{ten, "start S; S = x | ; token x = /x/; // done", "// a\nA=error//\n;skip b=/[^\\/]/;start A;"} {
		for n := range len(text) + 1 {
			wantModelled(t, text[:n])
		}
	}
}

// TestPaddedTexts puts blanks and comments between tokens: they change places alone.
func TestPaddedTexts(t *testing.T) {
	d := rand.New(rand.NewSource(607))
	for range 3000 {
		words := strings.Fields(many(1+d.Intn(5), func(int) string { return someStatement(d) }))
		var padded strings.Builder
		places := map[int]int{}
		at := 0
		for i, w := range words {
			pad := many(1+d.Intn(3), func(int) string { return []string{" ", "\n", "\t\r", "// x ; /y/\n", "//\n"}[d.Intn(5)] })
			if i > 0 && words[i-1] == "=" && w[0] == '/' {
				pad = "\n \r\t"
			}
			padded.WriteString(pad)
			places[at] = padded.Len()
			padded.WriteString(w)
			at += len(w) + 1
		}
		got, f := spec.Parse(padded.String())
		want, g := spec.Parse(strings.Join(words, " "))
		if plain(got) != plain(want) || f.Err != g.Err || f.Name != g.Name {
			t.Errorf("P607: %q: %+v %+v, not %+v %+v", padded.String(), got, f, want, g)
		}
		if to, is := places[g.At]; is && g.Err != api.OK && f.At != to {
			t.Errorf("P607: %q: at %d, not %d", padded.String(), f.At, to)
		}
	}
}

// TestListsAreTheCallers writes over the lists of an answer, their spare room too.
func TestListsAreTheCallers(t *testing.T) {
	s, want := right(t, ten), plain(right(t, ten))
	for i := range s.Productions {
		r := s.Productions[i].Right
		for j := range r[:cap(r)] {
			r[:cap(r)][j] = api.Sym{Kind: 9, N: i}
		}
	}
	for i := range s.Productions {
		for _, sym := range s.Productions[i].Right {
			if sym.N != i {
				t.Errorf("P2: the right sides share memory")
			}
		}
	}
	for i := range s.Lex {
		s.Lex[i].Expr.List = append(s.Lex[i].Expr.List[:0], api.Expr{Kind: 9})
	}
	clear(s.Lex)
	clear(s.Names)
	clear(s.Productions)
	if got := plain(right(t, ten)); got != want {
		t.Errorf("P3: %s, not %s", got, want)
	}
}
