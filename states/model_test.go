package states_test

import (
	"fmt"
	"math/rand"
	"slices"
	"strings"

	"graft/api"
	"graft/sets"
)

// model says of a spec what the chapter says, word by word.
type model struct {
	s api.Spec
}

// symbols are all of them, in their order.
func (m model) symbols() []api.Sym {
	var out []api.Sym
	for i, rule := range m.s.Lex {
		if !rule.Trivia {
			out = append(out, term(i))
		}
	}
	out = append(out, wrong())
	for i := range m.s.Names {
		out = append(out, name(i))
	}
	return out
}

func (m model) right(production int) []api.Sym {
	if production == -1 {
		return row(name(m.s.Start))
	}
	return m.s.Productions[production].Right
}

// behind is the symbol behind an item, or no symbol.
func (m model) behind(i api.Item) api.Sym {
	if right := m.right(i.Production); i.Dot < len(right) {
		return right[i.Dot]
	}
	return api.Sym{}
}

func sorted(set map[api.Item]bool) []api.Item {
	var out []api.Item
	for i := range set {
		out = append(out, i)
	}
	slices.SortFunc(out, func(x, y api.Item) int {
		if x.Production != y.Production {
			return x.Production - y.Production
		}
		return x.Dot - y.Dot
	})
	return out
}

// items are a kernel, and behind it the others of its closure.
func (m model) items(kernel []api.Item) []api.Item {
	set := map[api.Item]bool{}
	var walk func(i api.Item)
	walk = func(i api.Item) {
		if set[i] {
			return
		}
		set[i] = true
		for q, p := range m.s.Productions {
			if m.behind(i) == name(p.Left) {
				walk(api.Item{Production: q})
			}
		}
	}
	for _, i := range kernel {
		walk(i)
	}
	for _, i := range kernel {
		delete(set, i)
	}
	return slices.Concat(kernel, sorted(set))
}

// over is the kernel behind a list of items and a symbol.
func (m model) over(list []api.Item, x api.Sym) []api.Item {
	set := map[api.Item]bool{}
	for _, i := range list {
		if m.behind(i) == x {
			set[api.Item{Production: i.Production, Dot: i.Dot + 1}] = true
		}
	}
	return sorted(set)
}

// automaton is what the model says that there is: for each state its kernel, all its items, and what lies behind it.
type automaton struct {
	kernels, items [][]api.Item
	goes           []map[api.Sym]int
}

// automaton finds states till there are more than most.
func (m model) automaton(most int) automaton {
	out := automaton{kernels: [][]api.Item{{{Production: -1}}}}
	numbers := map[string]int{fmt.Sprint(out.kernels[0]): 0}
	for n := 0; n < len(out.kernels) && len(out.kernels) <= most; n++ {
		out.items = append(out.items, m.items(out.kernels[n]))
		out.goes = append(out.goes, map[api.Sym]int{})
		for _, x := range m.symbols() {
			kernel := m.over(out.items[n], x)
			if len(kernel) == 0 {
				continue
			}
			to, ok := numbers[fmt.Sprint(kernel)]
			if !ok {
				to = len(out.kernels)
				numbers[fmt.Sprint(kernel)] = to
				out.kernels = append(out.kernels, kernel)
			}
			out.goes[n][x] = to
		}
	}
	return out
}

func (m model) print() string {
	var b strings.Builder
	a := m.automaton(api.MaxStates)
	for n, kernel := range a.kernels {
		fmt.Fprintf(&b, "%d:", n)
		for _, i := range kernel {
			b.WriteString(strings.Replace(fmt.Sprintf(" %d.%d", i.Production, i.Dot), " -1.", " s.", 1))
		}
		b.WriteString(" |")
		for _, x := range m.symbols() {
			if to, ok := a.goes[n][x]; ok {
				fmt.Fprintf(&b, " %s>%d", written(x), to)
			}
		}
		b.WriteString("\n")
	}
	return b.String()
}

func written(x api.Sym) string {
	if x == wrong() {
		return "e"
	}
	return fmt.Sprintf("%c%d", " t n"[x.Kind], x.N)
}

// shape says how random specs are made.
type shape struct {
	names, rules, productions, right int
}

func shapes() []shape {
	return []shape{{1, 0, 1, 2}, {1, 1, 2, 2}, {2, 2, 3, 3}, {3, 3, 4, 3}, {4, 3, 6, 4}, {6, 5, 10, 3}, {12, 6, 20, 4}, {30, 20, 30, 3}, {70, 64, 100, 5}, {40, 20, 60, 8}, {20, 10, 300, 16}}
}

// random makes a spec in order: each name has a short right side and stands in one of a name that is reached, each rule that is no trivia stands somewhere; the rest is as it comes.
func random(r *rand.Rand, h shape) api.Spec {
	for {
		s := api.Spec{Lex: make([]api.LexRule, h.rules), Names: make([]string, h.names)}
		for i := range s.Lex {
			s.Lex[i].Trivia = r.Intn(4) == 0
		}
		order := r.Perm(h.names)
		s.Start = order[0]
		symbols := model{s}.symbols()
		put := func(left int, must ...api.Sym) {
			for range r.Intn(h.right + 1) {
				must = slices.Insert(must, r.Intn(len(must)+1), symbols[r.Intn(len(symbols))])
			}
			s.Productions = append(s.Productions, makes(left, must...))
		}
		for i, n := range order {
			s.Productions = append(s.Productions, makes(n, symbols[:r.Intn(2)]...))
			if i > 0 {
				put(order[r.Intn(i)], name(n))
			}
		}
		for i, rule := range s.Lex {
			if !rule.Trivia {
				put(r.Intn(h.names), term(i))
			}
		}
		for range h.productions {
			put(r.Intn(h.names))
		}
		r.Shuffle(len(s.Productions), func(i, j int) { s.Productions[i], s.Productions[j] = s.Productions[j], s.Productions[i] })
		if sets.Check(s) == (api.Fault{}) {
			return s
		}
	}
}
