package spec_test

import (
	"fmt"
	"math/rand"
	"reflect"
	"slices"
	"strings"
	"testing"
	"unsafe"

	"graft/api"
	"graft/spec"
)

const tenLines = `token num = /[0-9]+/;
token plus = /\+/;
token semi = /;/;
skip ws = / +/;
start L;
L = L S |;
S = E semi | error semi;
E = E plus T | T;
T = num;
`

func printed(t *testing.T, s api.Spec) string {
	t.Helper()
	text, err := spec.Print(s)
	if err != api.OK {
		t.Fatalf("P603: %.300s: %v", plain(s), err)
	}
	return text
}

func wantFormat(t *testing.T, text, want string) {
	t.Helper()
	if got, f := spec.Format(text); f != (api.Fault{}) || got != want {
		t.Errorf("P604: %q: %q %+v, not %q", text, got, f, want)
	}
	if got, f := spec.Format(want); f != (api.Fault{}) || got != want {
		t.Errorf("P607: %q: %q %+v", want, got, f)
	}
}

func wantNoFormat(t *testing.T, text string, want api.Fault) {
	t.Helper()
	if got, f := spec.Format(text); f != want || got != "" {
		t.Errorf("P604: %.100q: %.100q %+v, not %+v", text, got, f, want)
	}
}

func TestPrintedExamples(t *testing.T) {
	if got := printed(t, right(t, ten)); got != tenLines {
		t.Errorf("P603: %q", got)
	}
	wantFormat(t, ten, tenLines)
	for text, want := range map[string]string{
		"start A; A = ;": "start A;\nA =;\n",
		"start S; S = x | ; token x = /x/; // done":       "token x = /x/;\nstart S;\nS = x |;\n",
		"A = error A | error; start A;":                   "start A;\nA = error A | error;\n",
		"token a = //; A=;start A;":                       "token a = //;\nstart A;\nA =;\n",
		`token a = /\//; A=;start A;`:                     "token a = /\\//;\nstart A;\nA =;\n",
		"A=||;start A;":                                   "start A;\nA = | |;\n",
		"A=|A|;start A;":                                  "start A;\nA = | A |;\n",
		"B=A a A;A=B|error;start A;skip a=/[^\\x00-`]|/;": "skip a = /[a-\\xff]|()/;\nstart A;\nB = A a A;\nA = B | error;\n",
		"start B;A=b;skip b=/\\x0a/;B=;token c=/[b]/;":    "skip b = /\\n/;\ntoken c = /b/;\nstart B;\nA = b;\nB =;\n",
	} {
		wantFormat(t, text, want)
		if got := printed(t, right(t, text)); got != want {
			t.Errorf("P603: %q: %q, not %q", text, got, want)
		}
	}
}

func TestFaultsOfFormat(t *testing.T) {
	for _, text := range []string{"", "start A;", "token a = /b;", "token a = /(/;", "token a = /x/; token a = /y/;", "A = token;", "start A; start A;", "A = B; start A;", strings.Repeat(" ", api.MaxSpec+1), "A = " + strings.Repeat("x", 65)} {
		_, f := spec.Parse(text)
		if f.Err == api.OK {
			t.Errorf("P601: %q is right", text)
		}
		wantNoFormat(t, text, f)
	}
}

// TestTextsThatGrow has right texts whose one text is too long: of a pattern, of the whole, by one byte too.
func TestTextsThatGrow(t *testing.T) {
	pattern := "start A; A=; token a = /" + strings.Repeat("[^a]", 1000) + "/;"
	wantCheck(t, "a pattern that grows", right(t, pattern), api.ErrLong, 0, "lex")
	wantNoFormat(t, pattern, api.Fault{Err: api.ErrLong})
	whole := "start A; A=;" + many(50, func(i int) string { return fmt.Sprintf("token a%d=/%s/;", i, strings.Repeat("[^a]", 250)) })
	wantCheck(t, "a text that grows", right(t, whole), api.ErrLong, 0, "text")
	wantNoFormat(t, whole, api.Fault{Err: api.ErrLong})
	one := strings.TrimSuffix(modelText(long(t, api.MaxSpec+1)), "\n")
	wantCheck(t, "a text that grows by one", right(t, one), api.ErrLong, 0, "text")
	wantNoFormat(t, one, api.Fault{Err: api.ErrLong})
	wantFormat(t, modelText(long(t, api.MaxSpec)), modelText(long(t, api.MaxSpec)))
}

func TestNames(t *testing.T) {
	for _, c := range []struct {
		s    api.Spec
		want []string
	}{
		{right(t, ten), []string{"num", "plus", "semi", "ws", "error", "end", "L", "S", "E", "T"}},
		{api.Spec{}, []string{"error", "end"}},
		{api.Spec{Names: []string{"A"}, Start: 7}, []string{"error", "end", "A"}},
		{api.Spec{Lex: make([]api.LexRule, 2), Names: []string{"error", "", "a b", "\xff"}, Productions: []api.Production{prod(-5)}}, []string{"", "", "error", "end", "error", "", "a b", "\xff"}},
		{api.Spec{Lex: []api.LexRule{{Name: "end"}, {Name: "end", Trivia: true}}, Names: []string{"end"}}, []string{"end", "end", "error", "end", "end"}},
	} {
		if got := spec.Names(c.s); !slices.Equal(got, c.want) {
			t.Errorf("P605: %q, not %q", got, c.want)
		}
	}
	s := api.Spec{Lex: make([]api.LexRule, 1000), Names: make([]string, 2000)}
	s.Lex[999].Name, s.Names[1999] = "last", "least"
	if got := spec.Names(s); len(got) != 3002 || got[999] != "last" || got[1000] != "error" || got[1001] != "end" || got[3001] != "least" {
		t.Errorf("P605: %d names", len(got))
	}
}

// TestPrintedSpecsAreReadAgain holds what Parse makes of a spec's text against the spec.
func TestPrintedSpecsAreReadAgain(t *testing.T) {
	d := rand.New(rand.NewSource(606))
	for range 10000 {
		s := someSpec(d)
		text := printed(t, s)
		got, f := spec.Parse(text)
		if f != (api.Fault{}) || plain(got) != plain(s) {
			t.Errorf("P606: %q: %+v %+v, not %+v", text, got, f, s)
		}
		if got := printed(t, got); got != text {
			t.Errorf("P606: %q, then %q", text, got)
		}
		wantFormat(t, text, text)
	}
	for _, s := range []api.Spec{full(t), long(t, api.MaxSpec), long(t, 1000)} {
		wantSpec(t, printed(t, s), s)
	}
}

// TestWrittenTextsHaveOneText holds of random texts: what Parse takes Check takes, and Format leaves it as it is.
func TestWrittenTextsHaveOneText(t *testing.T) {
	d := rand.New(rand.NewSource(607))
	taken := 0
	for range 20000 {
		text := "start A; A = ; B = b | A; token b = /x/; " + someStatement(d) + someStatement(d)
		s, f := spec.Parse(text)
		if f.Err != api.OK {
			wantNoFormat(t, text, f)
			continue
		}
		taken++
		wantCheck(t, text, s, api.OK, 0, "")
		wantFormat(t, text, modelText(s))
	}
	if taken < 300 {
		t.Errorf("only %d texts are right: the test tells little", taken)
	}
}

// TestPaddedFormats puts blanks and comments between tokens: the one text stays.
func TestPaddedFormats(t *testing.T) {
	d := rand.New(rand.NewSource(604))
	for range 500 {
		var padded strings.Builder
		for _, w := range strings.Fields("token num = /[0-9]+/ ; token plus = /\\+/ ; token semi = /;/ ; skip ws = /\\x20+/ ; start L ; L = L S | ; S = E semi | error semi ; E = E plus T | T ; T = num ;") {
			pad := many(1+d.Intn(3), func(int) string { return []string{" ", "\n", "\t\r", "// x ; /y/\n", "//\n"}[d.Intn(5)] })
			if w[0] == '/' {
				pad = "\n \r\t"
			}
			padded.WriteString(pad + w)
		}
		wantFormat(t, padded.String()+"//", tenLines)
	}
}

// spared is the same spec, each list with spare room behind it that holds something.
func spared(s api.Spec) api.Spec {
	s.Lex = append(slices.Clip(s.Lex), api.LexRule{Name: "spare"})[:len(s.Lex)]
	s.Names = append(slices.Clip(s.Names), "spare")[:len(s.Names)]
	s.Productions = append(slices.Clip(s.Productions), prod(77))[:len(s.Productions)]
	for i := range s.Lex {
		l := s.Lex[i].Expr.List
		s.Lex[i].Expr.List = append(slices.Clip(l), api.Expr{Kind: 77})[:len(l)]
	}
	for i := range s.Productions {
		r := s.Productions[i].Right
		s.Productions[i].Right = append(slices.Clip(r), api.Sym{Kind: 77})[:len(r)]
	}
	return s
}

// wholly tells a spec with the spare room of its lists.
func wholly(s api.Spec) string {
	s.Lex = slices.Clone(s.Lex[:cap(s.Lex)])
	s.Names = s.Names[:cap(s.Names)]
	s.Productions = slices.Clone(s.Productions[:cap(s.Productions)])
	for i := range s.Lex {
		s.Lex[i].Expr.List = s.Lex[i].Expr.List[:cap(s.Lex[i].Expr.List)]
	}
	for i := range s.Productions {
		s.Productions[i].Right = s.Productions[i].Right[:cap(s.Productions[i].Right)]
	}
	return plain(s)
}

// TestSpecsStayAsTheyAre looks at what was handed in, its spare room too, and at what is told.
func TestSpecsStayAsTheyAre(t *testing.T) {
	d := rand.New(rand.NewSource(2))
	for range 500 {
		s := someSpec(d)
		for range d.Intn(2) {
			s = turned(d, s)
		}
		s = spared(copied(s))
		before := wholly(s)
		spec.Check(s)
		spec.Print(s)
		names := spec.Names(s)
		if wholly(s) != before {
			t.Fatalf("P2: %s became %s", before, wholly(s))
		}
		told := slices.Clone(names)
		for i := range s.Names[:cap(s.Names)] {
			s.Names[:cap(s.Names)][i] = "other"
		}
		if !slices.Equal(names, told) {
			t.Errorf("P2: the names are the argument's: %q", names)
		}
		clear(names[:cap(names)])
		if slices.Contains(s.Names, "") {
			t.Errorf("P2: the names are the argument's")
		}
	}
}

// TestAnswersStay asks twice: nothing is kept of the first answer or of a spec that was handed in.
func TestAnswersStay(t *testing.T) {
	s := right(t, ten)
	first := spec.Names(s)
	clear(first[:cap(first)])
	if got := spec.Names(s); got[4] != "error" || got[5] != "end" || got[0] != "num" {
		t.Errorf("P3: %q", got)
	}
	bad := copied(s)
	bad.Names[0] = "1"
	wantCheck(t, "a bad name", bad, api.ErrPrint, 0, "names")
	wantCheck(t, "the examples' spec", s, api.OK, 0, "")
	if !reflect.DeepEqual(s, right(t, ten)) || printed(t, s) != tenLines {
		t.Errorf("P3: %+v", s)
	}
}

// TestTextsAreNotKept looks at the memory of the names that are told: it is neither the text's nor the spec's.
func TestTextsAreNotKept(t *testing.T) {
	inside := func(part, whole string) bool {
		from, at := uintptr(unsafe.Pointer(unsafe.StringData(whole))), uintptr(unsafe.Pointer(unsafe.StringData(part)))
		return from <= at && at < from+uintptr(len(whole))
	}
	text := strings.Clone(ten)
	s := right(t, text)
	for i, name := range spec.Names(s) {
		for _, whole := range append([]string{text, s.Lex[0].Name, s.Lex[3].Name}, s.Names...) {
			if inside(name, whole) {
				t.Errorf("P2: the name %d is a piece of what was handed in", i)
			}
		}
	}
	for _, r := range s.Lex {
		if inside(r.Name, text) {
			t.Errorf("P2: the rule's name %s is a piece of the text", r.Name)
		}
	}
	for _, name := range s.Names {
		if inside(name, text) {
			t.Errorf("P2: the name %s is a piece of the text", name)
		}
	}
	unknown := strings.Clone("start abc;")
	if _, f := spec.Parse(unknown); f.Name != "abc" || inside(f.Name, unknown) {
		t.Errorf("P2: the fault's name %q is a piece of the text", f.Name)
	}
}
