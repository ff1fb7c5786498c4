package spec_test

import (
	"fmt"
	"math"
	"math/rand"
	"strings"
	"testing"

	"graft/api"
	"graft/expr"
	"graft/spec"
)

// wantCheck asks Check and Print at once: Print tells the same error, and no text beside it.
func wantCheck(t *testing.T, what string, s api.Spec, err api.Errno, at int, name string) {
	t.Helper()
	if f, want := spec.Check(s), (api.Fault{Err: err, At: at, Name: name}); f != want {
		t.Errorf("P602: %s: %+v, not %+v", what, f, want)
	}
	if text, got := spec.Print(s); got != err || (text == "") != (err != api.OK) {
		t.Errorf("P603: %s: %q %v, not %v", what, text, got, err)
	}
}

// turn is a change of the examples' spec, and the fault that it makes.
type turn struct {
	what string
	do   func(s *api.Spec)
	err  api.Errno
	at   int
	name string
}

// turns make one fault each; they stand in the order in which the faults are asked for.
func turns() []turn {
	deep := api.Expr{Kind: api.XRange}
	for range api.MaxNest {
		deep = api.Expr{Kind: api.XRepeat, Max: -1, List: []api.Expr{deep}}
	}
	wide := api.Expr{Kind: api.XSeq, List: make([]api.Expr, api.MaxPositions)}
	return []turn{
		{"65 rules", func(s *api.Spec) { s.Lex = append(s.Lex, make([]api.LexRule, 61)...) }, api.ErrLong, 0, "lex"},
		{"129 names", func(s *api.Spec) { s.Names = append(s.Names, make([]string, 125)...) }, api.ErrLong, 0, "names"},
		{"513 productions", func(s *api.Spec) { s.Productions = append(s.Productions, make([]api.Production, 506)...) }, api.ErrLong, 0, "productions"},
		{"17 symbols", func(s *api.Spec) { s.Productions[2].Right = make([]api.Sym, 17) }, api.ErrLong, 2, "right"},
		{"17 symbols later", func(s *api.Spec) { s.Productions[5].Right = make([]api.Sym, 170) }, api.ErrLong, 5, "right"},
		{"a rule without a name", func(s *api.Spec) { s.Lex[0].Name = "" }, api.ErrPrint, 0, "lex"},
		{"no pattern", func(s *api.Spec) { s.Lex[0].Expr.Kind = 0 }, api.ErrExpr, 0, "lex"},
		{"a rule's name twice", func(s *api.Spec) { s.Lex[1].Name = "num" }, api.ErrTwice, 1, "lex"},
		{"a wide pattern", func(s *api.Spec) { s.Lex[1].Expr = wide }, api.ErrLong, 1, "lex"},
		{"a rule that is called error", func(s *api.Spec) { s.Lex[2].Name = "error" }, api.ErrPrint, 2, "lex"},
		{"a deep pattern", func(s *api.Spec) { s.Lex[2].Expr = deep }, api.ErrNest, 2, "lex"},
		{"a trivia rule's name twice", func(s *api.Spec) { s.Lex[3].Name = "plus" }, api.ErrTwice, 3, "lex"},
		{"many positions", func(s *api.Spec) { s.Lex[3].Expr = times(times(s.Lex[3].Expr)) }, api.ErrPositions, 3, "lex"},
		{"no name", func(s *api.Spec) { s.Names[0] = "L-" }, api.ErrPrint, 0, "names"},
		{"a rule's name again", func(s *api.Spec) { s.Names[1] = "ws" }, api.ErrTwice, 1, "names"},
		{"a name that begins rules", func(s *api.Spec) { s.Names[2] = "skip" }, api.ErrPrint, 2, "names"},
		{"a name again", func(s *api.Spec) { s.Names[3] = "L" }, api.ErrTwice, 3, "names"},
		{"no start", func(s *api.Spec) { s.Start = 5 }, api.ErrStart, 0, "start"},
		{"first of another name", func(s *api.Spec) { s.Productions[0].Left = 1 }, api.ErrPrint, 0, "productions"},
		{"of no name", func(s *api.Spec) { s.Productions[1].Left = -1 }, api.ErrIndex, 1, "productions"},
		{"a wrong terminal", func(s *api.Spec) { s.Productions[2].Right[1].N = 4 }, api.ErrIndex, 2, "productions"},
		{"an error with a number", func(s *api.Spec) { s.Productions[3].Right[0].N = 1 }, api.ErrIndex, 3, "productions"},
		{"two above", func(s *api.Spec) { s.Productions[4].Left = 3 }, api.ErrPrint, 4, "productions"},
		{"below", func(s *api.Spec) { s.Productions[5].Left = 1 }, api.ErrPrint, 5, "productions"},
		{"a symbol of no kind", func(s *api.Spec) { s.Productions[6].Right[0].Kind = 0 }, api.ErrIndex, 6, "productions"},
		{"a name without a production", func(s *api.Spec) { s.Names = append(s.Names, "U") }, api.ErrPrint, 7, "productions"},
	}
}

func times(e api.Expr) api.Expr {
	return api.Expr{Kind: api.XRepeat, Min: 1000, Max: 1000, List: []api.Expr{e}}
}

func TestFaultsOfCheck(t *testing.T) {
	wantCheck(t, "the examples' spec", right(t, ten), api.OK, 0, "")
	for _, c := range turns() {
		s := right(t, ten)
		c.do(&s)
		wantCheck(t, c.what, s, c.err, c.at, c.name)
	}
}

// TestTheFirstOfTwoFaults makes two at once: the one that is asked for first is told.
func TestTheFirstOfTwoFaults(t *testing.T) {
	list := turns()
	for i, first := range list {
		for _, second := range list[i+1:] {
			s := right(t, ten)
			second.do(&s)
			first.do(&s)
			wantCheck(t, first.what+", and "+second.what, s, first.err, first.at, first.name)
		}
	}
}

// TestFaultsOfOneRule has them at one place: the name is asked first, then whether it stands ahead, then the pattern.
func TestFaultsOfOneRule(t *testing.T) {
	s := right(t, ten)
	s.Lex[0].Name, s.Lex[1].Name = "a b", "a b"
	wantCheck(t, "two bad names", s, api.ErrPrint, 0, "lex")
	s.Lex[0].Name = "a"
	s.Lex[1].Expr.Kind = 9
	wantCheck(t, "a bad name and no pattern", s, api.ErrPrint, 1, "lex")
	s.Lex[1].Name = "a"
	wantCheck(t, "a name twice and no pattern", s, api.ErrTwice, 1, "lex")
	s.Lex[1].Name = "b"
	wantCheck(t, "no pattern", s, api.ErrExpr, 1, "lex")
	s.Lex[0].Expr.Kind = 9
	wantCheck(t, "no patterns", s, api.ErrExpr, 0, "lex")
	s = right(t, ten)
	s.Productions[2] = api.Production{Left: 9, Right: []api.Sym{{Kind: 9}}}
	wantCheck(t, "no name, no symbol", s, api.ErrIndex, 2, "productions")
	s.Productions[2].Left = 3
	wantCheck(t, "two above, no symbol", s, api.ErrPrint, 2, "productions")
	s.Productions[2].Left = 1
	wantCheck(t, "no symbol", s, api.ErrIndex, 2, "productions")
}

func TestWhatIsNoName(t *testing.T) {
	long := strings.Repeat("n", api.MaxName)
	for _, word := range []string{"a", "Z", "_", "_1", "a9Z_", "end", "tokens", "Token", "ERROR", "lex", long, "start_", "skip1", "error_"} {
		s := right(t, ten)
		s.Lex[1].Name = word
		wantCheck(t, word, s, api.OK, 0, "")
		s = right(t, ten)
		s.Names[3] = word
		wantCheck(t, word, s, api.OK, 0, "")
	}
	for _, word := range []string{"", "token", "skip", "start", "error", "1", "9a", "a b", " a", "a ", "a\n", "\na", "é", "aé", "a\x00", "\x80", "a-b", "a.b", "=", "|", ";", "/", "//", "a//", "a;", long + "n", strings.Repeat("n", 1<<20)} {
		s := right(t, ten)
		s.Lex[1].Name = word
		wantCheck(t, fmt.Sprintf("the rule %.80q", word), s, api.ErrPrint, 1, "lex")
		s = right(t, ten)
		s.Names[3] = word
		wantCheck(t, fmt.Sprintf("the name %.80q", word), s, api.ErrPrint, 3, "names")
	}
}

func TestBytesOfNames(t *testing.T) {
	for c := range 256 {
		b := string([]byte{byte(c)})
		for _, word := range []string{b, "a" + b, "a" + b + "a"} {
			s := right(t, ten)
			s.Names[2] = word
			f := modelCheck(s)
			wantCheck(t, fmt.Sprintf("%q", word), s, f.Err, f.At, f.Name)
		}
	}
}

func TestNumbersThatNameNothing(t *testing.T) {
	for _, n := range []int{-1, -2, 4, 5, 6, math.MaxInt, math.MinInt} {
		s := right(t, ten)
		s.Start = n
		wantCheck(t, fmt.Sprint("start ", n), s, api.ErrStart, 0, "start")
		s = right(t, ten)
		s.Productions[3].Left = n
		wantCheck(t, fmt.Sprint("left ", n), s, api.ErrIndex, 3, "productions")
		for _, kind := range []int{api.STerminal, api.SName, api.SError, 0, 4, -1, math.MaxInt} {
			s = right(t, ten)
			s.Productions[3].Right[1] = api.Sym{Kind: kind, N: n}
			wantCheck(t, fmt.Sprint("the symbol ", kind, " ", n), s, api.ErrIndex, 3, "productions")
		}
	}
	s := right(t, ten)
	for n := range 4 { // a trivia rule is a rule too
		s.Productions[3].Right[0], s.Productions[3].Right[1] = term(n), name(n)
		wantCheck(t, fmt.Sprint("the symbols ", n), s, api.OK, 0, "")
		s.Start = n
		wantCheck(t, fmt.Sprint("the start ", n), s, api.OK, 0, "")
	}
	s.Productions[3].Right[0] = api.Sym{Kind: 4}
	wantCheck(t, "a fourth kind", s, api.ErrIndex, 3, "productions")
}

func TestEmptySpecs(t *testing.T) {
	wantCheck(t, "nothing", api.Spec{}, api.ErrStart, 0, "start")
	wantCheck(t, "productions alone", api.Spec{Productions: []api.Production{prod(0)}}, api.ErrStart, 0, "start")
	wantCheck(t, "a name alone", api.Spec{Names: []string{"A"}}, api.ErrPrint, 0, "productions")
	wantCheck(t, "two names", api.Spec{Names: []string{"A", "B"}, Productions: []api.Production{prod(0)}}, api.ErrPrint, 1, "productions")
	wantCheck(t, "a name with nothing", api.Spec{Names: []string{"A"}, Productions: []api.Production{prod(0)}}, api.OK, 0, "")
	wantCheck(t, "empty lists", api.Spec{Lex: []api.LexRule{}, Names: []string{"A"}, Productions: []api.Production{{Right: []api.Sym{}}}}, api.OK, 0, "")
}

// full has as many rules, names and productions as may be, and a right side as long as may be.
func full(t *testing.T) api.Spec {
	return right(t, many(64, func(i int) string { return fmt.Sprintf("token t%d = /x/; ", i) })+
		many(127, func(i int) string { return fmt.Sprintf("N%d = ; ", i) })+
		"start N0; A = "+strings.Repeat("t0 ", 16)+strings.Repeat("|", 384)+";")
}

func TestSizes(t *testing.T) {
	s := full(t)
	if len(s.Lex) != 64 || len(s.Names) != 128 || len(s.Productions) != 512 || len(s.Productions[127].Right) != 16 {
		t.Fatalf("%d rules, %d names, %d productions", len(s.Lex), len(s.Names), len(s.Productions))
	}
	wantCheck(t, "all that may be", s, api.OK, 0, "")
	s.Lex = append(s.Lex, api.LexRule{Name: "more", Expr: s.Lex[0].Expr})
	wantCheck(t, "65 rules", s, api.ErrLong, 0, "lex")
	s = full(t)
	s.Names = append(s.Names, "more")
	wantCheck(t, "129 names", s, api.ErrLong, 0, "names")
	s = full(t)
	s.Productions = append(s.Productions, prod(127))
	wantCheck(t, "513 productions", s, api.ErrLong, 0, "productions")
	s = full(t)
	s.Productions[127].Right = append(s.Productions[127].Right, term(0))
	wantCheck(t, "17 symbols", s, api.ErrLong, 127, "right")
}

// long has a text of that many bytes: most of them in right sides, the last ones in a name.
func long(t *testing.T, bytes int) api.Spec {
	s := api.Spec{Names: []string{"A", strings.Repeat("L", 64)}, Start: 1, Productions: []api.Production{prod(0), prod(1)}}
	rest := bytes - len(modelText(s))
	for ; rest > 66; rest -= 65 {
		p := &s.Productions[len(s.Productions)-1]
		if len(p.Right) == api.MaxRight {
			s.Productions = append(s.Productions, prod(1))
			p = &s.Productions[len(s.Productions)-1]
			rest -= len(" |")
		}
		p.Right = append(p.Right, name(1))
	}
	s.Names[0] += strings.Repeat("B", min(rest, 63))
	if rest > 63 {
		s.Productions[0].Right = []api.Sym{fails}
		s.Names[0] = s.Names[0][:1+rest-len(" error")]
	}
	if n := len(modelText(s)); n != bytes {
		t.Fatalf("%d bytes, not %d", n, bytes)
	}
	return s
}

func TestTheTextsLength(t *testing.T) {
	s := long(t, api.MaxSpec)
	wantCheck(t, "65536 bytes", s, api.OK, 0, "")
	wantSpec(t, printed(t, s), s)
	s = long(t, api.MaxSpec+1)
	wantCheck(t, "65537 bytes", s, api.ErrLong, 0, "text")
	s.Productions[len(s.Productions)-1].Right[0].N = 2
	wantCheck(t, "65537 bytes and no symbol", s, api.ErrIndex, len(s.Productions)-1, "productions")
}

// TestPatternsOfASpec has each error of patterns, at its rule (P6).
func TestPatternsOfASpec(t *testing.T) {
	one := api.Expr{Kind: api.XRange, From: 97, To: 97}
	nested := func(n int) api.Expr {
		e := one
		for range n - 1 {
			e = api.Expr{Kind: api.XRepeat, Max: -1, List: []api.Expr{e}}
		}
		return e
	}
	row := func(n int, part api.Expr) api.Expr {
		e := api.Expr{Kind: api.XSeq}
		for range n {
			e.List = append(e.List, part)
		}
		return e
	}
	round := api.Expr{Kind: api.XSeq, List: make([]api.Expr, 2)}
	round.List[0], round.List[1] = round, round
	for _, c := range []struct {
		what string
		e    api.Expr
		err  api.Errno
	}{
		{"64 deep", nested(64), api.OK}, {"65 deep", nested(65), api.ErrNest}, {"4000 deep", nested(4000), api.ErrNest}, {"5000 deep", nested(5000), api.ErrLong},
		{"4096 values", row(4095, one), api.OK}, {"4097 values", row(4096, one), api.ErrLong}, {"wide and deep", row(100, nested(65)), api.ErrLong}, {"in itself", round, api.ErrLong},
		{"a long text", row(2000, api.Expr{Kind: api.XRange, From: 1, To: 1}), api.ErrLong}, {"many positions", times(times(one)), api.ErrPositions}, {"no kind", api.Expr{}, api.ErrExpr}, {"a row of one", row(1, one), api.ErrExpr},
		{"nothing", row(0, one), api.OK},
	} {
		s := right(t, ten)
		s.Lex[2].Expr = c.e
		if c.err == api.OK {
			wantCheck(t, c.what, s, api.OK, 0, "")
			continue
		}
		wantCheck(t, c.what, s, c.err, 2, "lex")
		if _, err := expr.Print(c.e); err != c.err {
			t.Errorf("P602: %s: %v is not the pattern's error", c.what, c.err)
		}
		if list := spec.Names(s); len(list) != 10 || list[2] != "semi" {
			t.Errorf("P6: %s: %v", c.what, list)
		}
	}
}

// TestCheckAgainstTheModel has specs that are right, and ones with some things changed.
func TestCheckAgainstTheModel(t *testing.T) {
	d := rand.New(rand.NewSource(602))
	seen := map[api.Fault]int{}
	for range 20000 {
		s := someSpec(d)
		for range d.Intn(4) {
			s = turned(d, s)
		}
		f := modelCheck(s)
		wantCheck(t, plain(s), s, f.Err, f.At, f.Name)
		f.At = 0
		seen[f]++
		if text, _ := spec.Print(s); f.Err == api.OK && text != modelText(s) {
			t.Errorf("P603: %q, not %q", text, modelText(s))
		}
	}
	if len(seen) < 10 {
		t.Errorf("only %v: the test tells little", seen)
	}
}
