package query_test

import (
	"math/rand"
	"slices"
	"testing"

	"graft/api"
	"graft/engine"
	"graft/expr"
	"graft/query"
	"graft/sets"
	"graft/spec"
	"graft/tree"
)

// ten is the spec of the document's examples.
const ten = `token num = /[0-9]+/; token plus = /\+/; token semi = /;/; skip ws = / +/; start L; L = L S | ; S = E semi | error semi; E = E plus T | T; T = num;`

// calls has tokens of unlike lengths, two kinds of trivia, and errors in brackets.
const calls = `token name = /[a-z]+/; token num = /[0-9]+(\.[0-9]+)?/; token text = /"[^"]*"/; token eq = /=/; token o = /\(/; token c = /\)/; token comma = /,/; token semi = /;/; skip s = /[ \n]+/; skip note = /#[^\n]*/; start P; P = P S | ; S = name eq V semi | V semi | error semi; V = num | text | name | name o A c | o error c; A = L | ; L = L comma V | V;`

// languages are of several kinds: lists that grow on the left and on the right, nests, productions over nothing, error productions at many places and none.
func languages() []string {
	return []string{
		ten,
		calls,
		"token x = /x/; token semi = /;/; token o = /o/; token c = /c/; token q = /q/; token p = /p/; skip w = / +/; start B; B = S B | ; S = x | error semi | o B c | q B p;",
		"token l = /l/; token r = /r/; token x = /x/; skip w = / /; start S; S = l S r | x | error;",
		"token x = /x/; token o = /o/; token c = /c/; token q = /q/; token p = /p/; start S; S = o A c | q A p; A = A x | N x | o A c; N = M M; M = ;",
		"token a = /a/; token b = /b/; token c = /c/; skip w = / +/; start S; S = A B C | S error; A = a | ; B = b | ; C = c D | error a; D = E E; E = ;",
		"token num = /[0-9]/; token s = /,/; token o = /o/; token c = /c/; skip w = / +/; start V; V = num | o I c | o error c; I = V | I s V | I s error;",
		"token x = /x/; token s = /;/; token o = /o/; token c = /c/; start P; P = N L; L = L S | ; N = M M; M = ; K = ; S = x N s K | o P c N | error s K;",
		"token a = /a/; token b = /b/; token c = /c/; skip w = / +/; start R; R = R a b c | R a a | a N c N; N = b b b b | b | ;",
	}
}

func readSpec(t testing.TB, text string) api.Spec {
	t.Helper()
	s, f := spec.Parse(text)
	if f != (api.Fault{}) {
		t.Fatalf("%s: %+v", text, f)
	}
	return s
}

// compiled is the engine of a spec's text.
func compiled(t testing.TB, text string) *engine.Engine {
	t.Helper()
	e, f := engine.Compile(readSpec(t, text))
	if f != (api.Fault{}) {
		t.Fatalf("%s: %+v", text, f)
	}
	return e
}

// planted is the tree of a text.
func planted(t testing.TB, e *engine.Engine, text string) *tree.Node {
	t.Helper()
	d, err := e.Open([]byte(text))
	if err != api.OK {
		t.Fatalf("%v of %d bytes", err, len(text))
	}
	n, _ := d.Root(0)
	return n
}

// parsed is a query that is right.
func parsed(t testing.TB, s api.Spec, text string) *query.Query {
	t.Helper()
	q, f := query.Parse(s, text)
	if q == nil || f != (api.Fault{}) {
		t.Fatalf("P1402: %.300q: %+v", text, f)
	}
	return q
}

// writer makes texts of a spec.
type writer struct {
	r     *rand.Rand
	s     api.Spec
	words []string // the shortest one of each rule
	short [][]int  // the shortest sentence of each name
}

func newWriter(r *rand.Rand, s api.Spec) *writer {
	w := &writer{r: r, s: s}
	for _, rule := range s.Lex {
		b, _ := expr.Shortest(rule.Expr)
		w.words = append(w.words, string(b))
	}
	w.short, _ = sets.Yields(s)
	return w
}

// sentence is a random one of a name: by replacing names, and by their shortest sentences when it has grown long; for error anything stands in it.
func (w *writer) sentence(name, most int) (out string) {
	form := []api.Sym{{Kind: api.SName, N: name}}
	for len(form) > 0 {
		x := form[0]
		form = form[1:]
		switch {
		case x.Kind == api.STerminal:
			out += w.word(x.N)
		case x.Kind == api.SError:
			out += w.noise(3)
		case most <= 0:
			for _, terminal := range w.short[x.N] {
				if terminal < len(w.words) {
					out += w.word(terminal)
				}
			}
		default:
			most--
			form = slices.Concat(w.right(x.N), form)
		}
	}
	return out
}

// word is a rule's shortest one, at times with trivia ahead of it.
func (w *writer) word(rule int) (out string) {
	if i := w.r.Intn(len(w.words)); w.s.Lex[i].Trivia && w.r.Intn(2) == 0 {
		out = w.words[i]
	}
	return out + w.words[rule]
}

// right is a right side of a name, the longer of two most times, so that texts grow.
func (w *writer) right(name int) []api.Sym {
	var list [][]api.Sym
	for _, p := range w.s.Productions {
		if p.Left == name {
			list = append(list, p.Right)
		}
	}
	a, b := list[w.r.Intn(len(list))], list[w.r.Intn(len(list))]
	if w.r.Intn(4) > 0 && len(a) < len(b) {
		return b
	}
	return a
}

// noise is a few words and bytes of any kind, fewer than so many.
func (w *writer) noise(most int) (out string) {
	for range w.r.Intn(most) {
		if w.r.Intn(8) == 0 {
			out += "@"
		} else {
			out += w.words[w.r.Intn(len(w.words))]
		}
	}
	return out
}

// text is a sentence, at times with something wrong in it, or nothing but noise.
func (w *writer) text(most int) string {
	out := w.sentence(w.s.Start, most)
	switch w.r.Intn(8) {
	case 0:
		out = w.noise(most)
	case 1, 2, 3:
		at := w.r.Intn(len(out) + 1)
		out = out[:at] + w.noise(3) + out[min(len(out), at+w.r.Intn(3)):]
	}
	return out
}
