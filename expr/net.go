package expr

import (
	"slices"

	"graft/api"
)

// A place of a net is a taker's number, theEnd, or above it a fork's number and firstFork.
const (
	theEnd    = api.MaxPositions
	firstFork = theEnd + 1
)

// net is a pattern with its repetitions unrolled: one taker for each position, and forks between them.
type net struct {
	first  int
	takers []taker
	forks  []fork
}

// taker takes one byte, and leads to the place next. What stands behind it is found when it has taken one: there may be more of it, of all takers together, than a run ever asks for.
type taker struct {
	from, to byte
	next     int
	behind   []chunk
}

// fork leads to both of its places, and takes nothing.
type fork struct {
	one, other int
}

func newNet(e api.Expr) *net {
	n := &net{}
	n.first = n.lay(lean(e), theEnd)
	return n
}

// lean is the pattern without the parts that have no positions: such a one matches the empty row alone, but may be there so often that it could not be unrolled.
func lean(e api.Expr) api.Expr {
	switch e.Kind {
	case api.XSeq:
		return api.Expr{Kind: api.XSeq, List: leanParts(e.List, 0)}
	case api.XAlt:
		parts := leanParts(e.List, 1)
		if len(parts) == 1 {
			return parts[0]
		}
		return api.Expr{Kind: api.XAlt, List: parts}
	case api.XRepeat:
		part := lean(e.List[0])
		if e.Max == 0 || hollow(part) {
			return api.Expr{Kind: api.XSeq}
		}
		return repeat(part, e.Min, e.Max)
	}
	return e
}

// leanParts keeps as many of the parts without positions as it is told.
func leanParts(parts []api.Expr, keep int) []api.Expr {
	var kept []api.Expr
	for _, part := range parts {
		part = lean(part)
		if hollow(part) {
			keep--
			if keep < 0 {
				continue
			}
		}
		kept = append(kept, part)
	}
	return kept
}

// hollow asks whether a lean pattern has no positions.
func hollow(e api.Expr) bool { return e.Kind == api.XSeq && len(e.List) == 0 }

// lay puts a lean pattern ahead of the place next, and tells the place where it begins.
func (n *net) lay(e api.Expr, next int) int {
	switch e.Kind {
	case api.XRange:
		n.takers = append(n.takers, taker{from: byte(e.From), to: byte(e.To), next: next})
		return len(n.takers) - 1
	case api.XAlt:
		first := n.lay(e.List[0], next)
		for _, part := range e.List[1:] {
			first = n.fork(first, n.lay(part, next))
		}
		return first
	case api.XRepeat:
		return n.layTimes(e, next)
	}
	for _, part := range slices.Backward(e.List) {
		next = n.lay(part, next)
	}
	return next
}

func (n *net) layTimes(e api.Expr, next int) int {
	if e.Max == -1 {
		next = n.layLoop(e, next)
		return n.layCopies(e.List[0], max(e.Min, 1)-1, next)
	}
	after := next
	for range e.Max - e.Min {
		next = n.fork(n.lay(e.List[0], next), after)
	}
	return n.layCopies(e.List[0], e.Min, next)
}

// layLoop lays the last copy of a repetition without end, which leads back to its own beginning.
func (n *net) layLoop(e api.Expr, next int) int {
	again := n.fork(next, next)
	first := n.lay(e.List[0], again)
	n.forks[again-firstFork].one = first
	if e.Min == 0 {
		return again
	}
	return first
}

func (n *net) layCopies(e api.Expr, count, next int) int {
	for range count {
		next = n.lay(e, next)
	}
	return next
}

func (n *net) fork(one, other int) int {
	n.forks = append(n.forks, fork{one, other})
	return firstFork + len(n.forks) - 1
}

// reach tells the takers, and theEnd, to which a place leads by forks alone.
func (n *net) reach(place int) set {
	var found set
	seen := make([]bool, len(n.forks))
	todo := []int{place}
	for len(todo) > 0 {
		last := len(todo) - 1
		place, todo = todo[last], todo[:last]
		if place < firstFork {
			found.put(place)
			continue
		}
		if i := place - firstFork; !seen[i] {
			seen[i] = true
			todo = append(todo, n.forks[i].one, n.forks[i].other)
		}
	}
	return found
}

// take tells what stands behind a taker; nothing, if it does not take the byte.
func (n *net) take(number int, c byte) []chunk {
	t := &n.takers[number]
	if c < t.from || c > t.to {
		return nil
	}
	if t.behind == nil {
		t.behind = n.reach(t.next).chunks()
	}
	return t.behind
}
