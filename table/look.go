package table

import (
	"slices"

	"graft/api"
	"graft/sets"
	"graft/states"
)

// grammar is that of an automaton, with a number for each symbol: that of a terminal is its own, error and end too, and those of the names come behind them.
type grammar struct {
	terminals, names int
	start            int
	lefts            []int // of each production
	rights           [][]int
	empty            []bool  // for each symbol whether it makes the empty row
	goes             [][]int // for each state and symbol the state behind them; -1: none
}

func newGrammar(a *states.Automaton) *grammar {
	s := a.Spec()
	g := &grammar{terminals: len(s.Lex) + 2, names: len(s.Names)}
	g.start = g.terminals + s.Start
	nullable, _ := sets.Nullable(s) // no fault: automata are made of specs in order
	g.empty = append(make([]bool, g.terminals), nullable...)
	for _, p := range s.Productions {
		g.lefts = append(g.lefts, g.terminals+p.Left)
		g.rights = append(g.rights, g.numbers(p.Right))
	}
	for n := range a.Len() {
		g.goes = append(g.goes, g.goesFrom(a, n))
	}
	return g
}

func (g *grammar) errorAt() int { return g.terminals - 2 }

func (g *grammar) endAt() int { return g.terminals - 1 }

// numbers are those of a row of symbols.
func (g *grammar) numbers(row []api.Sym) []int {
	out := make([]int, len(row))
	for i, x := range row {
		switch x.Kind {
		case api.SName:
			out[i] = g.terminals + x.N
		case api.SError:
			out[i] = g.errorAt()
		default:
			out[i] = x.N
		}
	}
	return out
}

// goesFrom asks what lies behind a state, symbol by symbol. Nothing lies behind what is none: end, and the places of trivia.
func (g *grammar) goesFrom(a *states.Automaton, n int) []int {
	out := make([]int, g.terminals+g.names)
	for i := range out {
		x := api.Sym{Kind: api.STerminal, N: i}
		switch {
		case i >= g.terminals:
			x = api.Sym{Kind: api.SName, N: i - g.terminals}
		case i == g.errorAt():
			x = api.Sym{Kind: api.SError}
		}
		out[i] = a.Go(n, x)
	}
	return out
}

// node is the number of a name (as a symbol) that stands behind an item of a state.
func (g *grammar) node(state, name int) int { return state*g.names + name - g.terminals }

// trail is a production of the name of a node, and the states along its right side, that of the node first.
type trail struct {
	node, production int
	states           [api.MaxRight + 1]int
}

// trails goes over all trails there are.
func (g *grammar) trails(yield func(trail) bool) {
	for n, behind := range g.goes {
		for p, left := range g.lefts {
			if behind[left] < 0 {
				continue
			}
			x := trail{node: g.node(n, left), production: p}
			x.states[0] = n
			for i, symbol := range g.rights[p] {
				x.states[i+1] = g.goes[x.states[i]][symbol]
			}
			if !yield(x) {
				return
			}
		}
	}
}

// readable finds for each state the terminals that can be put on next, with nothing put on ahead of them but names that make the empty row. In the state behind Start end counts as one.
func (g *grammar) readable() []set {
	out, next := make([]set, len(g.goes)), make([][]int, len(g.goes))
	for n, behind := range g.goes {
		for x, to := range behind {
			switch {
			case to < 0:
			case x < g.terminals:
				out[n] = out[n].with(x)
			case g.empty[x]:
				next[n] = append(next[n], to)
			}
		}
	}
	accepts := g.goes[0][g.start]
	out[accepts] = out[accepts].with(g.endAt())
	spread(out, next)
	return out
}

// includes finds for each node the nodes whose followers are among its own: it stands in a right side of theirs with nothing behind it but names that make the empty row.
func (g *grammar) includes() [][]int {
	out := make([][]int, len(g.goes)*g.names)
	for x := range g.trails {
		for i, symbol := range slices.Backward(g.rights[x.production]) {
			if symbol < g.terminals {
				break
			}
			inner := g.node(x.states[i], symbol)
			out[inner] = append(out[inner], x.node)
			if !g.empty[symbol] {
				break
			}
		}
	}
	return out
}

// followers finds for each node the terminals that can stand behind its name, when what is ahead of it leads to its state.
func (g *grammar) followers() []set {
	read := g.readable()
	out := make([]set, len(g.goes)*g.names)
	for n, behind := range g.goes {
		for x := g.terminals; x < len(behind); x++ {
			if to := behind[x]; to >= 0 {
				out[g.node(n, x)] = read[to]
			}
		}
	}
	spread(out, g.includes())
	return out
}

// looks finds for each state the lookaheads of each production, those of the added one first. Each that is to be reduced has some, since each name has a sentence.
func (g *grammar) looks() [][]set {
	out := make([][]set, len(g.goes))
	for n := range out {
		out[n] = make([]set, len(g.lefts)-added)
	}
	behind := g.followers()
	for x := range g.trails {
		look := &out[x.states[len(g.rights[x.production])]][x.production-added]
		*look = look.or(behind[x.node])
	}
	accepts := g.goes[0][g.start]
	out[accepts][0] = set{}.with(g.endAt())
	return out
}
