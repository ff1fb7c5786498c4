package parse_test

import (
	"math/rand"
	"slices"
	"testing"

	"graft/api"
	"graft/parse"
	"graft/sets"
	"graft/table"
	"graft/tree"
)

// languages are grammars of several kinds: lists that grow on the left and on the right, nests, productions over nothing, error productions at many places and none, grammars that need more than followers.
func languages() []string {
	return []string{
		ten,
		"token l = /l/; token r = /r/; token x = /x/; start S; S = l S r | x | error;",
		"token x = /x/; token semi = /;/; token o = /o/; token c = /c/; start B; B = S B | ; S = x semi | error semi | o B c;",
		"token x = /x/; token semi = /;/; token o = /o/; token c = /c/; start B; B = S B | ; S = x semi | o B c | o B error c;",
		"token x = /x/; token semi = /;/; token o = /o/; token c = /c/; start B; B = B S | ; S = E semi | error semi; E = x | o E c | o error c;",
		"token x = /x/; token o = /o/; token c = /c/; token q = /q/; token p = /p/; start S; S = o A error c | q A p | o A p; A = x A | x;",
		"token a = /a/; token b = /b/; start S; S = a S b | ;",
		"token a = /a/; token b = /b/; token c = /c/; start S; S = A B C | S error; A = a | ; B = b | ; C = c D | error a; D = E E; E = ;",
		"token x = /x/; token y = /y/; token z = /z/; token w = /w/; start S; S = x A z | y A w | x B w | y B z; A = z; B = error | w w;",
		"token id = /i/; token eq = /=/; skip s = / /; token star = /[*]/; start S; S = V eq E | E; V = star E | id | error; E = V;",
		"token i = /i/; token e = /e/; token x = /x/; start S; S = M | U; M = i M e M | x; U = i S | i M e U;",
		"token l = /l/; token r = /r/; token x = /x/; token n = /n/; start L; L = l I r; I = x T | error; T = n x T | N; N = n | ;",
		"token num = /n/; token s = /,/; token o = /o/; token c = /c/; start V; V = num | o I c | o error c; I = V | I s V | I s error;",
	}
}

// sound makes random specs without conflicts, out of the languages and of nothing, and hands them to a function with their tables.
func sound(t *testing.T, seed int64, count int, do func(r *rand.Rand, m *model, x *table.Table)) {
	t.Helper()
	r := rand.New(rand.NewSource(seed))
	for i := 0; i < count; {
		var s api.Spec
		switch l := languages(); {
		case i < len(l):
			s = read(t, l[i])
		case i%4 == 0:
			s = random(r)
		default:
			s = changed(r, read(t, l[r.Intn(len(l))]))
		}
		if i >= len(languages()) && sets.Check(s) != (api.Fault{}) {
			continue
		}
		if x := tableOf(t, s); x != nil {
			do(r, newModel(s), x)
			i++
		} else if i < len(languages()) {
			t.Fatalf("conflicts: %s", languages()[i])
		}
		if t.Failed() {
			t.Fatalf("of %+v", s)
		}
	}
}

// symbolsOf are all of a spec, error often.
func symbolsOf(s api.Spec) []api.Sym {
	out := []api.Sym{{Kind: api.SError}}
	for i, rule := range s.Lex {
		if !rule.Trivia {
			out = append(out, api.Sym{Kind: api.STerminal, N: i})
		}
	}
	for i := range s.Names {
		out = append(out, api.Sym{Kind: api.SName, N: i})
	}
	return out
}

// changed changes a few symbols and productions of a spec.
func changed(r *rand.Rand, s api.Spec) api.Spec {
	symbols := symbolsOf(s)
	for range r.Intn(4) {
		at := r.Intn(len(s.Productions))
		p := &s.Productions[at]
		x := symbols[r.Intn(len(symbols))]
		switch k := r.Intn(len(p.Right) + 1); {
		case r.Intn(6) == 0:
			s.Productions = append(s.Productions, api.Production{Left: r.Intn(len(s.Names)), Right: slices.Clone(p.Right)})
		case r.Intn(8) == 0 && len(s.Productions) > 1:
			s.Productions = slices.Delete(s.Productions, at, at+1)
		case k == len(p.Right) || r.Intn(3) == 0:
			p.Right = slices.Insert(p.Right, k, x)
		case r.Intn(2) == 0:
			p.Right = slices.Delete(p.Right, k, k+1)
		default:
			p.Right[k] = x
		}
	}
	return s
}

// random is a small spec of any kind.
func random(r *rand.Rand) api.Spec {
	s := api.Spec{Lex: make([]api.LexRule, 1+r.Intn(4)), Names: make([]string, 1+r.Intn(4))}
	for i := range s.Lex {
		s.Lex[i].Trivia = r.Intn(5) == 0
	}
	symbols := symbolsOf(s)
	for n := range s.Names {
		for range 1 + r.Intn(3) {
			p := api.Production{Left: n}
			for range r.Intn(4) {
				p.Right = append(p.Right, symbols[r.Intn(len(symbols))])
			}
			s.Productions = append(s.Productions, p)
		}
	}
	return s
}

// kinds are those of leaves that may stand in a text, the end left out.
func (m *model) kinds() []int {
	out := []int{api.KBad}
	for i, rule := range m.s.Lex {
		if !rule.Trivia {
			out = append(out, i)
		}
	}
	return out
}

// sentence is a random one, error too, by replacing names; when it has grown long names become their shortest sentences.
func (m *model) sentence(r *rand.Rand, most int) []int {
	short, _ := sets.Yields(m.s)
	var out []int
	form := []int{nameOf(m.s.Start)}
	for len(form) > 0 {
		x := form[0]
		form = form[1:]
		if x >= 0 {
			out = append(out, x)
			continue
		}
		if most--; most < 0 {
			out = append(out, short[-1-x]...)
			continue
		}
		var with []int
		for p, production := range m.s.Productions {
			if nameOf(production.Left) == x {
				with = append(with, p)
			}
		}
		form = slices.Concat(m.right(with[r.Intn(len(with))]), form)
	}
	return out
}

// text is a row of leaves: those of a sentence, with a few changed, put in or taken out; where error stands in it anything; or, at times, any leaves at all.
func (m *model) text(r *rand.Rand, most int) []api.Leaf {
	kinds := m.kinds()
	var row []int
	for _, x := range m.sentence(r, most) {
		if x != m.errorAt() {
			row = append(row, x)
			continue
		}
		for range r.Intn(3) {
			row = append(row, kinds[r.Intn(len(kinds))])
		}
	}
	if r.Intn(8) == 0 {
		row = nil
		for range r.Intn(most) {
			row = append(row, kinds[r.Intn(len(kinds))])
		}
	}
	for range r.Intn(4) {
		k := r.Intn(len(row) + 1)
		switch any := kinds[r.Intn(len(kinds))]; {
		case k == len(row) || r.Intn(3) == 0:
			row = slices.Insert(row, k, any)
		case r.Intn(2) == 0:
			row = slices.Delete(row, k, k+1)
		default:
			row[k] = any
		}
	}
	var leaves []api.Leaf
	for _, kind := range append(row, api.KEnd) {
		leaves = append(leaves, api.Leaf{Kind: kind, Skip: r.Intn(3), Len: r.Intn(3), Reach: r.Intn(9)})
	}
	return leaves
}

// bare is a tree's rows, Ids left out.
func bare(n *tree.Node) []api.Row {
	rows := n.Rows()
	for i := range rows {
		rows[i].Id = 0
	}
	return rows
}

// build is Build of leaves that have a tree.
func build(t *testing.T, x *table.Table, m *tree.Store, leaves []api.Leaf) (*tree.Node, []api.Mishap) {
	t.Helper()
	n, l, e := parse.Build(x, m, leaves)
	if n == nil || e != api.OK {
		t.Fatalf("P1101: %v of %v", e, leaves)
	}
	return n, l
}
