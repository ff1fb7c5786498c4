package table_test

import (
	"fmt"
	"math/rand"
	"slices"
	"testing"

	"graft/api"
	"graft/sets"
	"graft/states"
)

// item is one of the canonical LR(1) collection.
type item struct {
	production, dot, look int
}

type itemSet map[item]bool

// model says of a spec what the document's words say.
type model struct {
	s     api.Spec
	first [][]int // sets.First
	empty []bool  // sets.Nullable
}

func newModel(s api.Spec) model {
	first, _ := sets.First(s)
	empty, _ := sets.Nullable(s)
	return model{s, first, empty}
}

func (m model) endAt() int { return len(m.s.Lex) + 1 }

// terminals are all of them, error and end too.
func (m model) terminals() []int {
	var out []int
	for i, rule := range m.s.Lex {
		if !rule.Trivia {
			out = append(out, i)
		}
	}
	return append(out, len(m.s.Lex), len(m.s.Lex)+1)
}

func (m model) symbol(terminal int) api.Sym {
	if terminal == len(m.s.Lex) {
		return wrong()
	}
	return term(terminal)
}

// symbols are all of them, the names last.
func (m model) symbols() []api.Sym {
	var out []api.Sym
	for _, terminal := range m.terminals() {
		if terminal != m.endAt() {
			out = append(out, m.symbol(terminal))
		}
	}
	for i := range m.s.Names {
		out = append(out, name(i))
	}
	return out
}

func (m model) number(x api.Sym) int {
	if x == wrong() {
		return len(m.s.Lex)
	}
	return x.N
}

func (m model) right(production int) []api.Sym {
	if production == -1 {
		return []api.Sym{name(m.s.Start)}
	}
	return m.s.Productions[production].Right
}

// behind is the symbol behind an item, or no symbol.
func (m model) behind(i item) api.Sym {
	if right := m.right(i.production); i.dot < len(right) {
		return right[i.dot]
	}
	return api.Sym{}
}

// heads are the terminals with which a row can begin that has a terminal behind it.
func (m model) heads(row []api.Sym, terminal int) []int {
	var out []int
	for _, x := range row {
		if x.Kind != api.SName {
			return append(out, m.number(x))
		}
		out = append(out, m.first[x.N]...)
		if !m.empty[x.N] {
			return out
		}
	}
	return append(out, terminal)
}

func (m model) closure(kernel itemSet) itemSet {
	out := itemSet{}
	var walk func(i item)
	walk = func(i item) {
		if out[i] {
			return
		}
		out[i] = true
		for q, p := range m.s.Productions {
			if m.behind(i) != name(p.Left) {
				continue
			}
			for _, look := range m.heads(m.right(i.production)[i.dot+1:], i.look) {
				walk(item{q, 0, look})
			}
		}
	}
	for i := range kernel {
		walk(i)
	}
	return out
}

// over are the kernels behind a set of items, by their symbols.
func (m model) over(set itemSet) map[api.Sym]itemSet {
	out := map[api.Sym]itemSet{}
	for i := range set {
		if x := m.behind(i); x != (api.Sym{}) {
			if out[x] == nil {
				out[x] = itemSet{}
			}
			out[x][item{i.production, i.dot + 1, i.look}] = true
		}
	}
	return out
}

func (s itemSet) key() string {
	var list []string
	for i := range s {
		list = append(list, fmt.Sprint(i))
	}
	slices.Sort(list)
	return fmt.Sprint(list)
}

// core are a set's items without their lookaheads.
func (s itemSet) core() string {
	out := itemSet{}
	for i := range s {
		out[item{i.production, i.dot, 0}] = true
	}
	return out.key()
}

// collection is the canonical LR(1) collection: the items of each state. There is none if it would have more states than most.
func (m model) collection(most int) []itemSet {
	begin := itemSet{item{-1, 0, m.endAt()}: true}
	seen := map[string]bool{begin.key(): true}
	kernels := []itemSet{begin}
	var out []itemSet
	for n := 0; n < len(kernels); n++ {
		out = append(out, m.closure(kernels[n]))
		for _, kernel := range m.over(out[n]) {
			if k := kernel.key(); !seen[k] {
				seen[k] = true
				kernels = append(kernels, kernel)
			}
		}
		if len(kernels) > most {
			return nil
		}
	}
	return out
}

// merged are the states of a collection, those of equal cores made one, in the order of an automaton's; ok: each of its states is there, and no other.
func (m model) merged(collection []itemSet, a *states.Automaton) (out []itemSet, ok bool) {
	cores := map[string]itemSet{}
	for _, set := range collection {
		k := set.core()
		if cores[k] == nil {
			cores[k] = itemSet{}
		}
		for i := range set {
			cores[k][i] = true
		}
	}
	for n := range a.Len() {
		core := itemSet{}
		for _, i := range a.Items(n) {
			core[item{i.Production, i.Dot, 0}] = true
		}
		if cores[core.key()] == nil {
			return nil, false
		}
		out = append(out, cores[core.key()])
	}
	return out, len(out) == len(cores)
}

// reduced are the productions that a set of items reduces at a terminal, rising; the added one is -1.
func (m model) reduced(set itemSet, terminal int) []int {
	var out []int
	for i := range set {
		if i.look == terminal && i.dot == len(m.right(i.production)) {
			out = append(out, i.production)
		}
	}
	slices.Sort(out)
	return out
}

// shifts asks whether a set of items puts a terminal on.
func (m model) shifts(set itemSet, terminal int) bool {
	for i := range set {
		if m.behind(i) == m.symbol(terminal) && terminal != m.endAt() {
			return true
		}
	}
	return false
}

// torn asks whether a set of items has two actions at some terminal.
func (m model) torn(set itemSet) bool {
	return slices.ContainsFunc(m.terminals(), func(t int) bool {
		count := len(m.reduced(set, t))
		return count > 1 || count == 1 && m.shifts(set, t)
	})
}

// conflicts are those of merged states.
func (m model) conflicts(merged []itemSet, a *states.Automaton) []api.Conflict {
	var out []api.Conflict
	rows, f := sets.Yields(m.s)
	for n, set := range merged {
		for _, t := range m.terminals() {
			c := api.Conflict{State: n, Terminal: t, Shift: -1, First: -2, Second: -2, Prefix: a.Path(n)}
			count := 0
			for i, p := range m.reduced(set, t) {
				if count++; i == 0 {
					c.First = p
				} else if i == 1 {
					c.Second = p
				}
			}
			if m.shifts(set, t) {
				c.Shift = a.Go(n, m.symbol(t))
				count++
			}
			if count > 1 {
				if f == (api.Fault{}) {
					c.Example = m.example(rows, c)
				}
				out = append(out, c)
			}
		}
	}
	return out
}

func (m model) example(rows [][]int, c api.Conflict) []int {
	var out []int
	for _, x := range c.Prefix {
		if x.Kind == api.SName {
			out = append(out, rows[x.N]...)
		} else {
			out = append(out, m.number(x))
		}
	}
	if len(out)+1 > api.MaxYield {
		return nil
	}
	return append(out, c.Terminal)
}

// shape says how random specs are made.
type shape struct {
	names, rules, productions, right int
}

// random makes a spec in order: each name has a short right side and stands in one of a name that is reached, each rule that is no trivia stands somewhere; the rest is as it comes.
func random(r *rand.Rand, h shape) api.Spec {
	for {
		s := api.Spec{Lex: rules(h.rules), Names: names(h.names)}
		for i := range s.Lex {
			s.Lex[i].Trivia = r.Intn(5) == 0
		}
		order := r.Perm(h.names)
		s.Start = order[0]
		symbols := model{s: s}.symbols()
		put := func(left int, must ...api.Sym) {
			for range r.Intn(h.right + 1) {
				must = slices.Insert(must, r.Intn(len(must)+1), symbols[r.Intn(len(symbols))])
			}
			s.Productions = append(s.Productions, makes(left, must...))
		}
		for i, n := range order {
			at := r.Intn(len(symbols) - h.names)
			s.Productions = append(s.Productions, makes(n, symbols[at:at+r.Intn(2)]...))
			if i > 0 {
				put(order[r.Intn(i)], name(n))
			}
		}
		for i, rule := range s.Lex {
			if !rule.Trivia {
				put(r.Intn(h.names), term(i))
			}
		}
		for range h.productions {
			put(r.Intn(h.names))
		}
		r.Shuffle(len(s.Productions), func(i, j int) { s.Productions[i], s.Productions[j] = s.Productions[j], s.Productions[i] })
		if sets.Check(s) == (api.Fault{}) {
			return s
		}
	}
}

// few is a shape for a grammar of which all can be asked.
func few(r *rand.Rand) shape {
	return shape{1 + r.Intn(4), r.Intn(5), r.Intn(4), 1 + r.Intn(4)}
}

// known are grammars that lie near to having conflicts.
func known() []string {
	return []string{
		tenTokens + "L = L S | ; S = E semi | error semi; E = E plus T | T; T = num;",
		"token x = /x/; token y = /y/; token z = /z/; token w = /w/; start S; S = x A z | y A w | x B w | y B z; A = z; B = z;",
		"token id = /i/; token eq = /=/; skip s = / /; token star = /[*]/; start S; S = V eq E | E; V = star E | id; E = V;",
		"token a = /a/; token b = /b/; token c = /c/; start S; S = A B C; A = a | ; B = b | ; C = c | ;",
		"token a = /a/; token b = /b/; start S; S = A a | b A c B | c a; A = c | error; B = S B b | ; c = b;",
		"token i = /i/; token e = /e/; token x = /x/; start S; S = M | U; M = i M e M | x; U = i S | i M e U;",
		"token l = /l/; token r = /r/; token x = /x/; token n = /n/; start L; L = l I r; I = x T | ; T = n x T | N; N = n | ;",
	}
}

// near makes a spec out of one that is known, with a few symbols and productions changed.
func near(t *testing.T, r *rand.Rand) api.Spec {
	t.Helper()
	for {
		s := read(t, known()[r.Intn(len(known()))])
		symbols := newModel(s).symbols()
		for range r.Intn(4) {
			at := r.Intn(len(s.Productions))
			p := &s.Productions[at]
			x := symbols[r.Intn(len(symbols))]
			switch k := r.Intn(len(p.Right) + 1); {
			case r.Intn(6) == 0:
				s.Productions = append(s.Productions, makes(r.Intn(len(s.Names)), p.Right...))
			case r.Intn(6) == 0:
				s.Productions = slices.Delete(s.Productions, at, at+1)
			case k == len(p.Right) || r.Intn(3) == 0:
				p.Right = slices.Insert(p.Right, k, x)
			case r.Intn(2) == 0:
				p.Right = slices.Delete(p.Right, k, k+1)
			default:
				p.Right[k] = x
			}
		}
		if sets.Check(s) == (api.Fault{}) {
			return s
		}
	}
}
