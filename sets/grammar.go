package sets

import "graft/api"

// grammar is a spec in order, with what its names can be and begin with.
type grammar struct {
	spec  api.Spec
	empty set
	first family
}

// newGrammar finds what each name begins with: what its right sides do.
func newGrammar(s api.Spec) grammar {
	return least(grammar{spec: s, empty: making(s, false)}, func(g *grammar) bool {
		old := g.first
		for _, p := range s.Productions {
			g.first[p.Left] = g.first[p.Left].or(g.heads(p.Right, set{}))
		}
		return g.first != old
	})
}

// heads finds with which terminals a row begins that has one of next behind it.
func (g *grammar) heads(row []api.Sym, next set) set {
	var out set
	for _, x := range row {
		if x.Kind != api.SName {
			return out.with(terminal(g.spec, x))
		}
		out = out.or(g.first[x.N])
		if !g.empty.has(x.N) {
			return out
		}
	}
	return out.or(next)
}

// follow finds what stands behind each name, as the rules of closure say it.
func (g *grammar) follow() family {
	var begin family
	begin[g.spec.Start] = set{}.with(end(g.spec))
	return least(begin, func(f *family) bool {
		old := *f
		for _, p := range g.spec.Productions {
			for i, x := range p.Right {
				if x.Kind == api.SName {
					f[x.N] = f[x.N].or(g.heads(p.Right[i+1:], f[p.Left]))
				}
			}
		}
		return *f != old
	})
}

// terminal is the number of a symbol that is no name.
func terminal(s api.Spec, x api.Sym) int {
	if x.Kind == api.SError {
		return len(s.Lex)
	}
	return x.N
}

// end is the number of the last terminal.
func end(s api.Spec) int { return len(s.Lex) + 1 }

// terminals makes a set of a list of numbers, or tells the first that is no terminal.
func terminals(s api.Spec, list []int) (set, api.Fault) {
	var out set
	for i, n := range list {
		if !within(n, end(s)+1) || n < len(s.Lex) && s.Lex[n].Trivia {
			return set{}, api.Fault{Err: api.ErrTerminal, At: i}
		}
		out = out.with(n)
	}
	return out, api.Fault{}
}
