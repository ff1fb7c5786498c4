package shell_test

import (
	"strings"
	"testing"

	"graft/api"
	"graft/shell"
)

// ten is the spec of the document's examples.
const ten = `token num = /[0-9]+/; token plus = /\+/; token semi = /;/; skip ws = / +/; start L; L = L S | ; S = E semi | error semi; E = E plus T | T; T = num;`

// lined is ten with line ends as blanks, as the chapter of layouts has it.
const lined = `token num = /[0-9]+/; token plus = /\+/; token semi = /;/; skip ws = /[ \n]+/; start L; L = L S | ; S = E semi | error semi; E = E plus T | T; T = num;`

// linedGaps are gaps of both: a line's end behind a statement, blanks around a plus.
const linedGaps = "nnn,n,nnl,nnn,nbbn,nn,nn"

// ambiguous is a spec with a conflict.
const ambiguous = `token x = /x/; token plus = /\+/; start E; E = E plus E | x;`

// great has lists of items that cost many rows each: x with 255 nodes over nothing ahead of it, 257 in all; y 2; z 3. A list of none is one row; the end leaf and the root are two.
const great = "token x = /x/; token y = /y/; token z = /z/; start L; L = L A x | L y | L Z | ; Z = z; A = B B; B = C C; C = D D; D = E E; E = F F; F = G G; G = H H; H = ;"

// language is a spec with texts of it, right and wrong ones, bits of which others are made, queries and gaps.
type language struct {
	spec    string
	texts   []string
	bits    []string
	queries []string
	gaps    []string
}

// languages are of several kinds: lists, nests, productions over nothing, error productions at many places and none, tokens that look far ahead, one without rules.
func languages() []language {
	return []language{
		{ten, []string{"", "1;", "1+2;3 ;", " 12 + 3;4;", "1 2;", "1+;", ";", "1", "1;#;2;"}, []string{"1", "+", ";", " ", "22", "#", "1;"},
			[]string{"num @x", "(E (E) . plus . (T num @n)) @e", "(L ~ num @x)", "(! !) (L .)", "$ @e _ @all", `(_ ! @b) num = "1" num - "1" @c`}, []string{linedGaps, "nnn,n,nnb,nnn,nnnn,nn,nn", "bbb,b,bbb,bbb,bbbb,bb,bb"}},
		{lined, []string{"1+2;3 ;", "1;\n2;", "1 2\n;", ""}, []string{"1", "+", ";", " ", "\n", "1;"},
			[]string{"(S (E) @e semi @s) @it"}, []string{linedGaps, "lll,i,oio,nnn,nnin,no,nn"}},
		{`token name = /[a-z]+/; token num = /[0-9]+(\.[0-9]+)?/; token text = /"[^"]*"/; token eq = /=/; token o = /\(/; token c = /\)/; token comma = /,/; token semi = /;/; skip s = /[ \n]+/; skip note = /#[^\n]*/; start P; P = P S | ; S = name eq V semi | V semi | error semi; V = num | text | name | name o A c | o error c; A = L | ; L = L comma V | V;`,
			[]string{"", "a = f(1, \"b\", g());\n", "1.5; #n\nx;", "f(;g(1;", "(1 2);"}, []string{"a", "1", ".5", "\"", "=", "(", ")", ",", ";", " ", "\n", "#", "\xff"},
			[]string{`(V name @f (A ~ (V) @arg))`, `name ^ "g" @g`, "(S) @s"}, []string{"nnn,n,nbbnl,nnl,nnl,nn,nn,nn,ninon,nnnn,nn,n,nnbn,nn"}},
		{"token l = /l/; token r = /r/; token x = /x/; skip w = / /; start S; S = l S r | x | error;", []string{"x", "lxr", "l l x r r", "llx", "r"}, []string{"l", "r", "x", " ", "\x00"},
			[]string{"(S l . (S) @in . r)", "(S ~ x @x)"}, []string{"nnnn,nn,nn", "nbbn,nn,nn"}},
		{"token a = /a/; token b = /b/; start S; S = a S b | ;", []string{"", "ab", "aaabbb", "aab"}, []string{"a", "b", "c"}, []string{"(S) @s a @a"}, []string{"nnnn,n"}},
		{"token dots = /[.]{3}/; token dot = /[.]/; token ab = /a(bc)*/; token b = /b{1,1000}/; token c = /c/; skip far = /-(--){0,}/; start S; S = S I | ; I = ab dot | b dots | error c | c;", []string{"", "abc.b...c", "a..b"}, []string{".", "a", "bc", "c", "-", "--"}, []string{"(I _ @first .)"}, []string{"nnn,n,nnn,nnn,nnn,nn"}},
		{"start N; N = M M; M = ;", []string{"", "a"}, []string{"a", "\x80"}, []string{"(M) @m"}, []string{"nnn,n"}},
	}
}

// plays has a script done, given as pairs of a line and its answer, and holds each answer against that, and against the model.
func plays(t testing.TB, pairs ...string) {
	t.Helper()
	var lines, want []string
	for i := 0; i < len(pairs); i += 2 {
		lines, want = append(lines, pairs[i]), append(want, pairs[i+1])
	}
	got := answers(t, lines...)
	for i, line := range lines {
		if got[i] != want[i] {
			t.Fatalf("line %d, %.200q: %.300q, not %.300q", i, line, got[i], want[i])
		}
	}
	wantRun(t, script(lines...))
}

// script is lines as one text.
func script(lines ...string) string {
	if len(lines) == 0 {
		return ""
	}
	return strings.Join(lines, "\n") + "\n"
}

// answers are the answers to lines, one for each.
func answers(t testing.TB, lines ...string) []string {
	t.Helper()
	got := shell.Run(script(lines...))
	list := strings.Split(got, "\n")
	if len(list) != len(lines)+1 || list[len(lines)] != "" {
		t.Fatalf("P2003: %d lines of answer to %d, and %.100q behind them: %.200q", len(list)-1, len(lines), list[len(list)-1], got)
	}
	return list[:len(lines)]
}

// wantRun holds what Run answers against the model.
func wantRun(t testing.TB, text string) string {
	t.Helper()
	got, want := shell.Run(text), newPlain().run(text)
	if got == want {
		return got
	}
	lines, a, b := strings.Split(text, "\n"), strings.Split(got, "\n"), strings.Split(want, "\n")
	for i := range min(len(a), len(b), len(lines)) {
		if a[i] != b[i] {
			t.Fatalf("P2005: line %d, %.300q: %.300q, not %.300q", i, lines[i], a[i], b[i])
		}
	}
	t.Fatalf("P2003: %d lines of answer, not %d, to %d", len(a), len(b), len(lines))
	return ""
}

// wantWords holds what Words answers against the model.
func wantWords(t testing.TB, line string) ([]string, api.Errno) {
	t.Helper()
	got, err := shell.Words(line)
	want, right := wordsOf(line)
	if err != right || strings.Join(got, "\n|") != strings.Join(want, "\n|") || len(got) != len(want) {
		t.Fatalf("P2001: Words(%.300q): %.300q %v, not %.300q %v", line, got, err, want, right)
	}
	return got, err
}

// lang is a line that makes the language of a spec.
func lang(name, text string) string { return "lang " + name + " " + quoteOf(text) }
