package engine_test

import (
	"math/rand"
	"slices"
	"testing"

	"graft/api"
	"graft/engine"
	"graft/expr"
	"graft/sets"
	"graft/spec"
)

// ten is the spec of the document's examples.
const ten = `token num = /[0-9]+/; token plus = /\+/; token semi = /;/; skip ws = / +/; start L; L = L S | ; S = E semi | error semi; E = E plus T | T; T = num;`

// calls has tokens of many bytes and of unlike lengths, two kinds of trivia, and errors in brackets.
const calls = `token name = /[a-z]+/; token num = /[0-9]+(\.[0-9]+)?/; token text = /"[^"]*"/; token eq = /=/; token o = /\(/; token c = /\)/; token comma = /,/; token semi = /;/; skip s = /[ \n]+/; skip note = /#[^\n]*/; start P; P = P S | ; S = name eq V semi | V semi | error semi; V = num | text | name | name o A c | o error c; A = L | ; L = L comma V | V;`

// languages are of several kinds: lists that grow on the left and on the right, nests, productions over nothing, error productions at many places and none, tokens that look far ahead.
func languages() []string {
	return []string{
		ten,
		calls,
		"token x = /x/; token semi = /;/; token o = /o/; token c = /c/; token q = /q/; token p = /p/; skip w = / +/; start B; B = S B | ; S = x | error semi | o B c | q B p;",
		"token l = /l/; token r = /r/; token x = /x/; skip w = / /; start S; S = l S r | x | error;",
		"token x = /x/; token semi = /;/; token o = /o/; token c = /c/; start B; B = B S | ; S = E semi | error semi; E = x | o E c | o error c;",
		"token x = /x/; token semi = /;/; token o = /o/; token c = /c/; skip w = / +/; start B; B = S B | ; S = x semi | o B c | o B error c;",
		"token x = /x/; token o = /o/; token c = /c/; token q = /q/; token p = /p/; start S; S = o A c | q A p; A = A x | N x | o A c; N = M M; M = ;",
		"token a = /a/; token b = /b/; start S; S = a S b | ;",
		"token a = /a/; token b = /b/; token c = /c/; skip w = / +/; start S; S = A B C | S error; A = a | ; B = b | ; C = c D | error a; D = E E; E = ;",
		"token id = /i/; token eq = /=/; skip s = / /; token star = /[*]/; start S; S = V eq E | E; V = star E | id | error; E = V;",
		"token num = /[0-9]/; token s = /,/; token o = /o/; token c = /c/; skip w = / +/; start V; V = num | o I c | o error c; I = V | I s V | I s error;",
		"token x = /x/; token s = /;/; token o = /o/; token c = /c/; start P; P = N L; L = L S | ; N = M M; M = ; K = ; S = x N s K | o P c N | error s K;",
		"token x = /x/; token o = /o/; token c = /c/; token q = /q/; token d = /d/; skip w = / +/; start P; P = P S | ; S = o A x c | q B x c | o error d | q error d; A = N; B = M; N = ; M = ;",
		"token x = /x/; token y = /y/; token z = /z/; start P; P = R L | z R M; R = x R | ; L = L y | y; M = M y | y | M x error;",
		"token dots = /[.]{3}/; token dot = /[.]/; token ab = /a(bc)*/; token b = /b+/; token c = /c/; skip far = /-(--)*/; start S; S = S I | ; I = ab dot | b dots | error c | c;",
		"token x = /x/; token y = /y/; token s = /;/; skip w = / +/; start L; L = L S | ; S = y | error x s | error error s;",
	}
}

// patterns are such as look further ahead than they match, or match what others match too.
func patterns() []string {
	return []string{"a", "ab", "abc", "b+", "a(bc)*", "[ab]c", "[.]{3}", "[.]", "x[^x]*x", "[a-c]{2,3}", "c", "x", "--+", "[^a]b"}
}

func read(t testing.TB, text string) api.Spec {
	t.Helper()
	s, f := spec.Parse(text)
	if f != (api.Fault{}) {
		t.Fatalf("%s: %+v", text, f)
	}
	return s
}

func pattern(t testing.TB, text string) api.Expr {
	t.Helper()
	e, f := expr.Parse(text)
	if f != (api.Fault{}) {
		t.Fatalf("%s: %+v", text, f)
	}
	return e
}

// compiled is the engine of a spec's text.
func compiled(t testing.TB, text string) *engine.Engine {
	t.Helper()
	e, f := engine.Compile(read(t, text))
	if e == nil || f != (api.Fault{}) {
		t.Fatalf("P1301: %s: %+v", text, f)
	}
	return e
}

// opened is a document.
func opened(t testing.TB, e *engine.Engine, text string) *engine.Doc {
	t.Helper()
	d, err := e.Open([]byte(text))
	if d == nil || err != api.OK {
		t.Fatalf("P1302: %v of %d bytes", err, len(text))
	}
	return d
}

// sound makes random specs that are taken, out of the languages and of nothing, and hands them to a function.
func sound(t *testing.T, seed int64, count int, do func(r *rand.Rand, s api.Spec, e *engine.Engine)) {
	t.Helper()
	r := rand.New(rand.NewSource(seed))
	l := languages()
	for i := 0; i < count; {
		var s api.Spec
		switch {
		case i < len(l):
			s = read(t, l[i])
		case i%4 == 0:
			s = random(t, r)
		default:
			s = changed(r, read(t, l[r.Intn(len(l))]))
		}
		if i >= len(l) && r.Intn(3) == 0 {
			s = otherPatterns(t, r, s)
		}
		e, f := engine.Compile(s)
		if f == (api.Fault{}) {
			do(r, s, e)
			i++
		} else if i < len(l) {
			t.Fatalf("P1301: %s: %+v", l[i], f)
		}
		if t.Failed() {
			t.Fatalf("of %+v", s)
		}
	}
}

// symbols are all of a spec.
func symbols(s api.Spec) []api.Sym {
	out := []api.Sym{{Kind: api.SError}}
	for i, rule := range s.Lex {
		if !rule.Trivia {
			out = append(out, api.Sym{Kind: api.STerminal, N: i})
		}
	}
	for i := range s.Names {
		out = append(out, api.Sym{Kind: api.SName, N: i})
	}
	return out
}

// changed changes a few symbols and productions of a spec.
func changed(r *rand.Rand, s api.Spec) api.Spec {
	list := symbols(s)
	for range r.Intn(4) {
		at := r.Intn(len(s.Productions))
		p := &s.Productions[at]
		x := list[r.Intn(len(list))]
		switch k := r.Intn(len(p.Right) + 1); {
		case r.Intn(6) == 0:
			s.Productions = append(s.Productions, api.Production{Left: r.Intn(len(s.Names)), Right: slices.Clone(p.Right)})
		case r.Intn(8) == 0 && len(s.Productions) > 1:
			s.Productions = slices.Delete(s.Productions, at, at+1)
		case k == len(p.Right) || r.Intn(3) == 0:
			p.Right = slices.Insert(p.Right, k, x)
		case r.Intn(2) == 0:
			p.Right = slices.Delete(p.Right, k, k+1)
		default:
			p.Right[k] = x
		}
	}
	return s
}

// random is a small spec of any kind.
func random(t *testing.T, r *rand.Rand) api.Spec {
	t.Helper()
	s := api.Spec{Lex: make([]api.LexRule, 1+r.Intn(4)), Names: make([]string, 1+r.Intn(4))}
	for i := range s.Lex {
		s.Lex[i] = api.LexRule{Trivia: r.Intn(5) == 0, Expr: pattern(t, "abcd"[i:i+1])}
	}
	list := symbols(s)
	for n := range s.Names {
		for range 1 + r.Intn(3) {
			p := api.Production{Left: n}
			for range r.Intn(4) {
				p.Right = append(p.Right, list[r.Intn(len(list))])
			}
			s.Productions = append(s.Productions, p)
		}
	}
	return s
}

// otherPatterns gives some rules of a spec other patterns.
func otherPatterns(t *testing.T, r *rand.Rand, s api.Spec) api.Spec {
	t.Helper()
	l := patterns()
	for i := range s.Lex {
		if r.Intn(3) == 0 {
			s.Lex[i].Expr = pattern(t, l[r.Intn(len(l))])
		}
	}
	return s
}

// writer makes texts of a spec.
type writer struct {
	r     *rand.Rand
	s     api.Spec
	words []string // the shortest one of each rule
	short [][]int  // the shortest sentence of each name
}

func newWriter(r *rand.Rand, s api.Spec) *writer {
	w := &writer{r: r, s: s}
	for _, rule := range s.Lex {
		b, _ := expr.Shortest(rule.Expr)
		w.words = append(w.words, string(b))
	}
	w.short, _ = sets.Yields(s)
	return w
}

// sentence is a random one of a name: by replacing names, and by their shortest sentences when it has grown long; for error anything stands in it.
func (w *writer) sentence(name, most int) (out string) {
	form := []api.Sym{{Kind: api.SName, N: name}}
	for len(form) > 0 {
		x := form[0]
		form = form[1:]
		switch {
		case x.Kind == api.STerminal:
			out += w.word(x.N)
		case x.Kind == api.SError:
			out += w.noise(3)
		case most <= 0:
			for _, terminal := range w.short[x.N] {
				if terminal < len(w.words) {
					out += w.word(terminal)
				}
			}
		default:
			most--
			form = slices.Concat(w.right(x.N), form)
		}
	}
	return out
}

// word is a rule's shortest one, at times with trivia ahead of it.
func (w *writer) word(rule int) (out string) {
	if i := w.r.Intn(len(w.words)); w.s.Lex[i].Trivia && w.r.Intn(2) == 0 {
		out = w.words[i]
	}
	return out + w.words[rule]
}

// right is a right side of a name, the longer of two most times, so that texts grow.
func (w *writer) right(name int) []api.Sym {
	var list [][]api.Sym
	for _, p := range w.s.Productions {
		if p.Left == name {
			list = append(list, p.Right)
		}
	}
	a, b := list[w.r.Intn(len(list))], list[w.r.Intn(len(list))]
	if w.r.Intn(4) > 0 && len(a) < len(b) {
		return b
	}
	return a
}

// noise is a few words and bytes of any kind, fewer than so many.
func (w *writer) noise(most int) (out string) {
	for range w.r.Intn(most) {
		if w.r.Intn(8) == 0 {
			out += "@"
		} else {
			out += w.words[w.r.Intn(len(w.words))]
		}
	}
	return out
}

// text is a sentence, at times with something wrong in it, or nothing but noise.
func (w *writer) text(most int) string {
	out := w.sentence(w.s.Start, most)
	switch w.r.Intn(8) {
	case 0:
		out = w.noise(most)
	case 1, 2, 3:
		at := w.r.Intn(len(out) + 1)
		out = out[:at] + w.noise(3) + out[min(len(out), at+w.r.Intn(3)):]
	}
	return out
}

// edit is one of a text: something put in, taken out, replaced or doubled; or the whole text becomes another.
func (w *writer) edit(text string, most int) api.Edit {
	at := w.r.Intn(len(text) + 1)
	del := min(len(text)-at, w.r.Intn(4))
	ins := ""
	switch w.r.Intn(10) {
	case 0:
		ins = w.sentence(w.r.Intn(len(w.s.Names)), most/4)
	case 1, 2, 3:
		ins = w.noise(4)
	case 4:
		from := w.r.Intn(len(text) + 1)
		ins = text[from:min(len(text), from+w.r.Intn(6))]
	case 5:
		del = w.r.Intn(len(text) - at + 1)
	case 6:
		del, ins = 0, w.words[w.r.Intn(len(w.words))]
	case 7:
		at, del, ins = 0, len(text), w.text(most)
	case 8:
		del = w.r.Intn(2) * del
	}
	return api.Edit{At: at, Del: del, Ins: []byte(ins)}
}
