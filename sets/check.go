package sets

import (
	"slices"

	"graft/api"
)

// check tells the first fault of a grammar. What comes later leans on what was asked ahead of it.
func check(s api.Spec) api.Fault {
	for _, ask := range []func(api.Spec) api.Fault{checkSizes, checkPlaces, checkReached, checkSentences, checkEmpty} {
		if f := ask(s); f.Err != api.OK {
			return f
		}
	}
	return api.Fault{}
}

func checkSizes(s api.Spec) api.Fault {
	if len(s.Lex) > api.MaxLex || len(s.Names) > api.MaxNames || len(s.Productions) > api.MaxProductions {
		return api.Fault{Err: api.ErrLong}
	}
	if slices.ContainsFunc(s.Productions, func(p api.Production) bool { return len(p.Right) > api.MaxRight }) {
		return api.Fault{Err: api.ErrLong}
	}
	return api.Fault{}
}

// checkPlaces asks whether all numbers stand for something.
func checkPlaces(s api.Spec) api.Fault {
	if !within(s.Start, len(s.Names)) {
		return api.Fault{Err: api.ErrIndex, At: -1}
	}
	for i, p := range s.Productions {
		if !within(p.Left, len(s.Names)) {
			return api.Fault{Err: api.ErrIndex, At: i}
		}
		if _, err := firstWrong(s, p.Right); err != api.OK {
			return api.Fault{Err: err, At: i}
		}
	}
	return api.Fault{}
}

// checkRow asks of a row of symbols what is asked of a right side.
func checkRow(s api.Spec, row []api.Sym) api.Fault {
	if len(row) > api.MaxRight {
		return api.Fault{Err: api.ErrLong}
	}
	at, err := firstWrong(s, row)
	return api.Fault{Err: err, At: at}
}

// firstWrong tells the place of the first symbol of a row that is none, and why it is none.
func firstWrong(s api.Spec, row []api.Sym) (int, api.Errno) {
	for i, x := range row {
		if err := checkSymbol(s, x); err != api.OK {
			return i, err
		}
	}
	return 0, api.OK
}

func checkSymbol(s api.Spec, x api.Sym) api.Errno {
	switch {
	case x.Kind == api.STerminal && within(x.N, len(s.Lex)):
		if s.Lex[x.N].Trivia {
			return api.ErrTrivia
		}
		return api.OK
	case x.Kind == api.SError && x.N == 0, x.Kind == api.SName && within(x.N, len(s.Names)):
		return api.OK
	}
	return api.ErrIndex
}

// within asks whether a number is a place of a list of n.
func within(place, n int) bool { return 0 <= place && place < n }

// reached is what stands in rows that are made of the start.
type reached struct {
	names, terminals set
}

func reach(s api.Spec) reached {
	return least(reached{names: set{}.with(s.Start)}, func(r *reached) bool {
		old := *r
		for _, p := range s.Productions {
			if r.names.has(p.Left) {
				r.take(s, p.Right)
			}
		}
		return *r != old
	})
}

func (r *reached) take(s api.Spec, row []api.Sym) {
	for _, x := range row {
		if x.Kind == api.SName {
			r.names = r.names.with(x.N)
		} else {
			r.terminals = r.terminals.with(terminal(s, x))
		}
	}
}

func checkReached(s api.Spec) api.Fault {
	r := reach(s)
	for i := range s.Names {
		if !r.names.has(i) {
			return api.Fault{Err: api.ErrUnreached, At: i}
		}
	}
	for i, rule := range s.Lex {
		if !rule.Trivia && !r.terminals.has(i) {
			return api.Fault{Err: api.ErrUnreached, At: i}
		}
	}
	return api.Fault{}
}

// making finds the names that make a row of terminals, or, without terminals, the empty row.
func making(s api.Spec, withTerminals bool) set {
	return least(set{}, func(done *set) bool {
		old := *done
		missing := func(x api.Sym) bool {
			if x.Kind == api.SName {
				return !done.has(x.N)
			}
			return !withTerminals
		}
		for _, p := range s.Productions {
			if !slices.ContainsFunc(p.Right, missing) {
				*done = done.with(p.Left)
			}
		}
		return *done != old
	})
}

func checkSentences(s api.Spec) api.Fault {
	done := making(s, true)
	for i := range s.Names {
		if !done.has(i) {
			return api.Fault{Err: api.ErrUnproductive, At: i}
		}
	}
	return api.Fault{}
}

// sizes is how many nodes the least empty tree of each name has; tooMany, if none is known that is small enough.
type sizes [api.MaxNames]int

const tooMany = api.MaxEmpty + 1

// emptySizes begins where no tree is known; what grows is what is known, so the numbers fall.
func emptySizes(s api.Spec) sizes {
	var begin sizes
	for i := range begin {
		begin[i] = tooMany
	}
	return least(begin, func(n *sizes) bool {
		old := *n
		for _, p := range s.Productions {
			n[p.Left] = min(n[p.Left], n.tree(p.Right))
		}
		return *n != old
	})
}

// tree counts the nodes of a tree over nothing with a right side's symbols below its root.
func (n *sizes) tree(right []api.Sym) int {
	count := 1
	for _, x := range right {
		if x.Kind != api.SName {
			return tooMany
		}
		count += n[x.N]
	}
	return count
}

func checkEmpty(s api.Spec) api.Fault {
	empty, n := making(s, false), emptySizes(s)
	for i := range s.Names {
		if empty.has(i) && n[i] == tooMany {
			return api.Fault{Err: api.ErrFull, At: i}
		}
	}
	return api.Fault{}
}
