package engine

import (
	"graft/api"
	"graft/scan"
	"graft/sets"
	"graft/states"
	"graft/table"
)

// step is one of those by which a spec is compiled; nil: nothing is wrong.
type step func() wrong

// wrong is what may go wrong in a step.
type wrong interface {
	fault() api.Fault
}

// placed is a fault as a layer below tells it, with its place.
type placed struct {
	told api.Fault
}

func (p placed) fault() api.Fault { return p.told }

// bare is an error of a layer below that tells no place.
type bare struct {
	err api.Errno
}

func (b bare) fault() api.Fault { return api.Fault{Err: b.err} }

// steps are those of compiling, in the order in which their faults are told. A layer below may find faults that stand apart in this order: what it has told in one step is taken up in a later one.
func (e *Engine) steps(s api.Spec) []step {
	var rules, grammar api.Fault
	var automaton *states.Automaton
	return []step{
		func() wrong {
			grammar = sets.Check(s)
			return when(grammar.Err == api.ErrLong, grammar)
		},
		func() wrong {
			e.scanner, rules = scan.New(s.Lex)
			return when(rules.Err != api.ErrSets, rules)
		},
		func() wrong { return when(true, grammar) },
		func() wrong { return when(true, rules) },
		func() wrong {
			var f api.Fault
			automaton, f = states.Build(s)
			return when(true, f)
		},
		func() wrong {
			var err api.Errno
			if e.table, err = table.Make(automaton); err != api.OK {
				return bare{err}
			}
			return nil
		},
	}
}

// when carries a fault on, if there is one, and its turn has come.
func when(turn bool, f api.Fault) wrong {
	if !turn || f.Err == api.OK {
		return nil
	}
	return placed{f}
}
