package table

import (
	"graft/api"
	"graft/sets"
	"graft/states"
)

// added is the production whose reduction is acceptance; none stands where there is no production.
const (
	added = -1
	none  = -2
)

// choice is what a state may do at a terminal: shift to a state, if it is not -1, and reduce the first of some productions, and the second.
type choice struct {
	shift, first, second int
}

// torn asks whether there is more than one thing to do.
func (c choice) torn() bool { return c.second != none || c.shift >= 0 && c.first != none }

// action is what is done, if there is no more than one thing to do.
func (c choice) action() api.Action {
	switch {
	case c.shift >= 0:
		return api.Action{Kind: api.AShift, N: c.shift}
	case c.first == added:
		return api.Action{Kind: api.AAccept}
	case c.first != none:
		return api.Action{Kind: api.AReduce, N: c.first}
	}
	return api.Action{}
}

// choices finds what each state may do at each terminal.
func choices(a *states.Automaton) [][]choice {
	g := newGrammar(a)
	out := make([][]choice, a.Len())
	for n, looks := range g.looks() {
		out[n] = make([]choice, g.terminals)
		for t := range out[n] {
			out[n][t] = choose(g.goes[n][t], looks, t)
		}
	}
	return out
}

// choose finds the first two productions with a terminal among their lookaheads; the added one stands ahead of the others.
func choose(shift int, looks []set, terminal int) choice {
	c := choice{shift, none, none}
	for i, l := range looks {
		switch {
		case !l.has(terminal):
		case c.first == none:
			c.first = i + added
		default:
			c.second = i + added
			return c
		}
	}
	return c
}

// giveExamples gives each conflict its example, if all names have a sentence that can be told.
func giveExamples(s api.Spec, list []api.Conflict) {
	rows, f := sets.Yields(s)
	if f.Err != api.OK {
		return
	}
	for i, c := range list {
		list[i].Example = example(len(s.Lex), rows, c)
	}
}

// example is a conflict's prefix as terminals, and its terminal behind them; none, if that is too long.
func example(errorAt int, rows [][]int, c api.Conflict) []int {
	var out []int
	for _, x := range c.Prefix {
		switch x.Kind {
		case api.SName:
			out = append(out, rows[x.N]...)
		case api.SError:
			out = append(out, errorAt)
		default:
			out = append(out, x.N)
		}
		if len(out) >= api.MaxYield {
			return nil
		}
	}
	return append(out, c.Terminal)
}
