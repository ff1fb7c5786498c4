package reuse_test

import (
	"math/rand"
	"slices"
	"testing"

	"graft/api"
	"graft/sets"
	"graft/spec"
	"graft/states"
	"graft/table"
	"graft/tree"
)

// ten is the spec of the document's examples.
const ten = `token num = /[0-9]+/; token plus = /\+/; token semi = /;/; skip ws = / +/; start L; L = L S | ; S = E semi | error semi; E = E plus T | T; T = num;`

// twoBlocks has blocks of two kinds, and lists in them that grow on the right: what goes on behind a tree hangs on what lies far below it.
const twoBlocks = "token x = /x/; token semi = /;/; token o = /o/; token c = /c/; token q = /q/; token p = /p/; start B; B = S B | ; S = x | error semi | o B c | q B p;"

// languages are grammars of several kinds: lists that grow on the left and on the right, nests, productions over nothing, error productions at many places and none, grammars that need more than followers.
func languages() []string {
	return []string{
		ten,
		twoBlocks,
		"token l = /l/; token r = /r/; token x = /x/; start S; S = l S r | x | error;",
		"token x = /x/; token semi = /;/; token o = /o/; token c = /c/; start B; B = S B | ; S = x semi | error semi | o B c;",
		"token x = /x/; token semi = /;/; token o = /o/; token c = /c/; start B; B = S B | ; S = x semi | o B c | o B error c;",
		"token x = /x/; token semi = /;/; token o = /o/; token c = /c/; start B; B = B S | ; S = E semi | error semi; E = x | o E c | o error c;",
		"token x = /x/; token o = /o/; token c = /c/; token q = /q/; token p = /p/; start S; S = o A error c | q A p | o A p; A = x A | x;",
		"token x = /x/; token o = /o/; token c = /c/; token q = /q/; token p = /p/; start S; S = o A c | q A p; A = A x | N x | o A c; N = M M; M = ;",
		"token a = /a/; token b = /b/; start S; S = a S b | ;",
		"token a = /a/; token b = /b/; token c = /c/; start S; S = A B C | S error; A = a | ; B = b | ; C = c D | error a; D = E E; E = ;",
		"token x = /x/; token y = /y/; token z = /z/; token w = /w/; start S; S = x A z | y A w | x B w | y B z; A = z; B = error | w w;",
		"token id = /i/; token eq = /=/; skip s = / /; token star = /[*]/; start S; S = V eq E | E; V = star E | id | error; E = V;",
		"token i = /i/; token e = /e/; token x = /x/; start S; S = M | U; M = i M e M | x; U = i S | i M e U;",
		"token l = /l/; token r = /r/; token x = /x/; token n = /n/; start L; L = l I r; I = x T | error; T = n x T | N; N = n | ;",
		"token num = /n/; token s = /,/; token o = /o/; token c = /c/; start V; V = num | o I c | o error c; I = V | I s V | I s error;",
		"token x = /x/; token s = /;/; token o = /o/; token c = /c/; start P; P = N L; L = L S | ; N = M M; M = ; K = ; S = x N s K | o P c N | error s K;",
		"token x = /x/; token o = /o/; token c = /c/; token q = /q/; token d = /d/; start P; P = P S | ; S = o A x c | q B x c | o error d | q error d; A = N; B = M; N = ; M = ;",
		"token x = /x/; token o = /o/; token c = /c/; token q = /q/; token d = /d/; start P; P = P S | ; S = o A x c | q B x c | o error d | q error d; A = N N; B = N; N = ;",
		"token x = /x/; token y = /y/; token z = /z/; start P; P = R L | z R M; R = x R | ; L = L y | y; M = M y | y | M x error;",
	}
}

func read(t testing.TB, text string) api.Spec {
	t.Helper()
	s, f := spec.Parse(text)
	if f != (api.Fault{}) {
		t.Fatalf("%s: %+v", text, f)
	}
	return s
}

// tableOf is a spec's table; nil, if it has conflicts.
func tableOf(t testing.TB, s api.Spec) *table.Table {
	t.Helper()
	a, f := states.Build(s)
	if a == nil || f != (api.Fault{}) {
		t.Fatalf("%+v of %+v", f, s)
	}
	x, _ := table.Make(a)
	return x
}

// made is the table of a spec's text.
func made(t testing.TB, text string) *table.Table {
	t.Helper()
	x := tableOf(t, read(t, text))
	if x == nil {
		t.Fatalf("conflicts: %s", text)
	}
	return x
}

// sound makes random specs without conflicts, out of the languages and of nothing, and hands them to a function with their tables.
func sound(t *testing.T, seed int64, count int, do func(r *rand.Rand, s api.Spec, x *table.Table)) {
	t.Helper()
	r := rand.New(rand.NewSource(seed))
	l := languages()
	for i := 0; i < count; {
		var s api.Spec
		switch {
		case i < len(l):
			s = read(t, l[i])
		case i%4 == 0:
			s = random(r)
		default:
			s = changed(r, read(t, l[r.Intn(len(l))]))
		}
		if i >= len(l) && sets.Check(s) != (api.Fault{}) {
			continue
		}
		if x := tableOf(t, s); x != nil {
			do(r, s, x)
			i++
		} else if i < len(l) {
			t.Fatalf("conflicts: %s", l[i])
		}
		if t.Failed() {
			t.Fatalf("of %+v", s)
		}
	}
}

// symbols are all of a spec.
func symbols(s api.Spec) []api.Sym {
	out := []api.Sym{{Kind: api.SError}}
	for i, rule := range s.Lex {
		if !rule.Trivia {
			out = append(out, api.Sym{Kind: api.STerminal, N: i})
		}
	}
	for i := range s.Names {
		out = append(out, api.Sym{Kind: api.SName, N: i})
	}
	return out
}

// changed changes a few symbols and productions of a spec.
func changed(r *rand.Rand, s api.Spec) api.Spec {
	list := symbols(s)
	for range r.Intn(4) {
		at := r.Intn(len(s.Productions))
		p := &s.Productions[at]
		x := list[r.Intn(len(list))]
		switch k := r.Intn(len(p.Right) + 1); {
		case r.Intn(6) == 0:
			s.Productions = append(s.Productions, api.Production{Left: r.Intn(len(s.Names)), Right: slices.Clone(p.Right)})
		case r.Intn(8) == 0 && len(s.Productions) > 1:
			s.Productions = slices.Delete(s.Productions, at, at+1)
		case k == len(p.Right) || r.Intn(3) == 0:
			p.Right = slices.Insert(p.Right, k, x)
		case r.Intn(2) == 0:
			p.Right = slices.Delete(p.Right, k, k+1)
		default:
			p.Right[k] = x
		}
	}
	return s
}

// random is a small spec of any kind.
func random(r *rand.Rand) api.Spec {
	s := api.Spec{Lex: make([]api.LexRule, 1+r.Intn(4)), Names: make([]string, 1+r.Intn(4))}
	for i := range s.Lex {
		s.Lex[i].Trivia = r.Intn(5) == 0
	}
	list := symbols(s)
	for n := range s.Names {
		for range 1 + r.Intn(3) {
			p := api.Production{Left: n}
			for range r.Intn(4) {
				p.Right = append(p.Right, list[r.Intn(len(list))])
			}
			s.Productions = append(s.Productions, p)
		}
	}
	return s
}

// writer makes texts of a spec.
type writer struct {
	r     *rand.Rand
	s     api.Spec
	kinds []int   // those of leaves that may stand in a text, the end left out
	short [][]int // the shortest sentence of each name
	odd   bool    // whether leaves of one kind are unlike
}

func newWriter(r *rand.Rand, s api.Spec) *writer {
	w := &writer{r: r, s: s, kinds: []int{api.KBad}, odd: r.Intn(2) == 0}
	for i, rule := range s.Lex {
		if !rule.Trivia {
			w.kinds = append(w.kinds, i)
		}
	}
	w.short, _ = sets.Yields(s)
	return w
}

// leaf is one of a kind.
func (w *writer) leaf(kind int) api.Leaf {
	l := api.Leaf{Kind: kind, Len: 1, Reach: 2}
	if w.odd {
		l = api.Leaf{Kind: kind, Skip: w.r.Intn(3), Len: w.r.Intn(3), Reach: w.r.Intn(9)}
	}
	if kind == api.KEnd {
		l.Len = 0
	}
	return l
}

// any is a leaf of any kind but the end.
func (w *writer) any() api.Leaf { return w.leaf(w.kinds[w.r.Intn(len(w.kinds))]) }

// sentence is a random one of a name, without its end: by replacing names, and by their shortest sentences when it has grown long; for error anything stands in it.
func (w *writer) sentence(name, most int) (out []api.Leaf) {
	form := []api.Sym{{Kind: api.SName, N: name}}
	for len(form) > 0 {
		x := form[0]
		form = form[1:]
		switch {
		case x.Kind == api.STerminal:
			out = append(out, w.leaf(x.N))
		case x.Kind == api.SError:
			out = append(out, w.noise(3)...)
		case most <= 0:
			for _, terminal := range w.short[x.N] {
				if terminal < len(w.s.Lex) {
					out = append(out, w.leaf(terminal))
				}
			}
		default:
			most--
			form = slices.Concat(w.right(x.N), form)
		}
	}
	return out
}

// right is a right side of a name, the longer of two most times, so that texts grow.
func (w *writer) right(name int) []api.Sym {
	var list [][]api.Sym
	for _, p := range w.s.Productions {
		if p.Left == name {
			list = append(list, p.Right)
		}
	}
	a, b := list[w.r.Intn(len(list))], list[w.r.Intn(len(list))]
	if w.r.Intn(4) > 0 && len(a) < len(b) {
		return b
	}
	return a
}

// noise is a few leaves of any kind, fewer than so many.
func (w *writer) noise(most int) (out []api.Leaf) {
	for range w.r.Intn(most) {
		out = append(out, w.any())
	}
	return out
}

// text is a row of leaves: a sentence, at times with something wrong in it, or nothing but noise.
func (w *writer) text(most int) []api.Leaf {
	out := w.sentence(w.s.Start, most)
	switch w.r.Intn(8) {
	case 0:
		out = w.noise(most)
	case 1, 2, 3:
		at := w.r.Intn(len(out) + 1)
		out = slices.Concat(out[:at], w.noise(3), out[min(len(out), at+w.r.Intn(3)):])
	}
	return append(out, w.leaf(api.KEnd))
}

// next is a text that is made of an older one's tree: with something put in, taken out, moved or doubled, or with one subtree's leaves replaced by others of its name.
func (w *writer) next(n *tree.Node, most int) []api.Leaf {
	old := leavesOf(n)
	last := len(old) - 1
	from := w.r.Intn(last + 1)
	to := min(last, from+w.r.Intn(4))
	var in []api.Leaf
	switch w.r.Intn(10) {
	case 0:
		in = w.sentence(w.r.Intn(len(w.s.Names)), most/4)
	case 1, 2:
		in = w.noise(4)
	case 3:
		at := w.r.Intn(last + 1)
		in = old[at:min(last, at+w.r.Intn(5))]
	case 4:
		to = from + w.r.Intn(last+1-from)
	case 5:
		to = from
		in = []api.Leaf{w.any()}
	case 6, 7, 8:
		if all := list(n); all[0].node.Kind() == api.NRoot {
			for x := all[w.r.Intn(len(all))]; x.node.Kind() == api.NInner; {
				from, to, in = x.from, x.to, w.sentence(w.s.Productions[x.node.N()].Left, most/4)
				break
			}
		}
	}
	out := slices.Concat(old[:from], in, old[to:])
	if w.r.Intn(12) == 0 {
		out[len(out)-1] = w.leaf(api.KEnd)
	}
	return out
}
