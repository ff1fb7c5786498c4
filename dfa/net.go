package dfa

import (
	"slices"

	"graft/api"
)

// net is a pattern with its repetitions unrolled: a taker for each position, and forks between them. A place of it is a taker's number or, below 0, that of a fork turned round (^).
type net struct {
	begin  int
	takers []taker
	forks  []fork
}

// theEnd is the taker that stands for the rule's end.
const theEnd = 0

// taker takes one byte, and leads to the place next.
type taker struct {
	from, to, next int
}

// fork leads to both of its places, and takes nothing. It keeps in mind the last round that came by.
type fork struct {
	one, other, seen int
}

// newNet is asked of patterns alone that do not match the empty row.
func newNet(e api.Expr) *net {
	n := &net{takers: []taker{{from: 1, to: 0}}}
	n.begin = n.lay(lean(e), theEnd)
	return n
}

// lean is the pattern with the same positions, and the same ones behind each other, but without what would be unrolled in vain: parts without positions, which may be there so often that there is no room for them, and repetitions directly within others that add nothing. So there are no more forks than some for each position.
func lean(e api.Expr) api.Expr {
	switch e.Kind {
	case api.XRange:
		return e
	case api.XRepeat:
		return repeat(lean(e.List[0]), e.Min, e.Max)
	}
	parts := make([]api.Expr, 0, len(e.List))
	for _, part := range e.List {
		if part = lean(part); !hollow(part) {
			parts = append(parts, part)
		}
	}
	whole := api.Expr{Kind: e.Kind, List: parts}
	if len(parts) == 1 {
		whole = parts[0]
	}
	if e.Kind == api.XAlt && len(parts) < len(e.List) {
		whole = repeat(whole, 0, 1)
	}
	return whole
}

// hollow asks whether a lean pattern has no positions.
func hollow(e api.Expr) bool { return e.Kind != api.XRange && len(e.List) == 0 }

// repeat makes a lean repetition of a lean part.
func repeat(part api.Expr, least, most int) api.Expr {
	if hollow(part) || most == 0 {
		return api.Expr{Kind: api.XSeq}
	}
	if once(least, most) && part.Kind == api.XRepeat && once(part.Min, part.Max) {
		least *= part.Min
		most = min(most, part.Max)
		part = part.List[0]
	}
	return api.Expr{Kind: api.XRepeat, Min: least, Max: most, List: []api.Expr{part}}
}

// once asks whether a repetition unrolled is one copy.
func once(least, most int) bool { return most == 1 || most == -1 && least <= 1 }

// lay puts a lean pattern ahead of the place next, and tells the place where it begins.
func (n *net) lay(e api.Expr, next int) int {
	switch e.Kind {
	case api.XRange:
		n.takers = append(n.takers, taker{e.From, e.To, next})
		return len(n.takers) - 1
	case api.XAlt:
		first := n.lay(e.List[0], next)
		for _, part := range e.List[1:] {
			first = n.fork(first, n.lay(part, next))
		}
		return first
	case api.XRepeat:
		return n.layTimes(e, next)
	}
	for _, part := range slices.Backward(e.List) {
		next = n.lay(part, next)
	}
	return next
}

func (n *net) layTimes(e api.Expr, next int) int {
	if e.Max == -1 {
		next = n.layLoop(e, next)
		return n.layCopies(e.List[0], max(e.Min, 1)-1, next)
	}
	after := next
	for range e.Max - e.Min {
		next = n.fork(n.lay(e.List[0], next), after)
	}
	return n.layCopies(e.List[0], e.Min, next)
}

// layLoop lays the last copy of a repetition without end, which leads back to its own beginning.
func (n *net) layLoop(e api.Expr, next int) int {
	again := n.fork(next, next)
	first := n.lay(e.List[0], again)
	n.forks[^again].one = first
	if e.Min == 0 {
		return again
	}
	return first
}

func (n *net) layCopies(e api.Expr, count, next int) int {
	for range count {
		next = n.lay(e, next)
	}
	return next
}

func (n *net) fork(one, other int) int {
	n.forks = append(n.forks, fork{one: one, other: other})
	return ^(len(n.forks) - 1)
}
