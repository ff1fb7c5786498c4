package dfa

import (
	"math/bits"

	"graft/api"
)

// The first two of a rule's sets.
const (
	emptySet = 0
	firstSet = 1
)

// rule is the machine of one rule, whose states are its sets of positions, a bit each. Sets, and ways between them, are found when they are asked for.
type rule struct {
	*net
	classes
	takes [][]uint64 // of each class the positions that take its bytes
	sets  table[uint64]
	ways  [][]uint16 // by set and class: the set behind, and 1; 0: not yet found
	round int
}

func newRule(e api.Expr) *rule {
	n := newNet(e)
	r := &rule{net: n}
	var c cuts
	c.join(n)
	r.classes = c.classes()
	for _, b := range r.first {
		r.takes = append(r.takes, r.takersOf(b))
	}
	set := r.noPositions()
	r.number(set)
	r.round++
	r.reach(n.begin, set)
	r.number(set)
	return r
}

// takersOf tells the positions that take a byte.
func (r *rule) takersOf(b int) []uint64 {
	takers := r.noPositions()
	for i, t := range r.takers {
		if t.from <= b && b <= t.to {
			put(takers, i)
		}
	}
	return takers
}

func (r *rule) noPositions() []uint64 { return make([]uint64, len(r.takers)/64+1) }

func put(set []uint64, position int) { set[uint(position)/64] |= 1 << (uint(position) % 64) }

func (r *rule) number(set []uint64) int {
	n := r.sets.number(set)
	if n == len(r.ways) {
		r.ways = append(r.ways, make([]uint16, len(r.takes)))
	}
	return n
}

// ends asks whether a set has the rule's end.
func (r *rule) ends(set uint16) bool { return r.sets.rows[set][0]>>theEnd&1 == 1 }

// behind tells the set behind a set, at a byte.
func (r *rule) behind(set uint16, b int) uint16 {
	class := r.class[b]
	if r.ways[set][class] == 0 {
		n := r.number(r.followers(set, class))
		r.ways[set][class] = uint16(n) + 1
	}
	return r.ways[set][class] - 1
}

// followers tells the followers of those positions of a set that take the bytes of a class.
func (r *rule) followers(set uint16, class int) []uint64 {
	found := r.noPositions()
	takes := r.takes[class]
	r.round++ // so that the forks may be gone by anew
	for i, w := range r.sets.rows[set] {
		for w &= takes[i]; w != 0; w &= w - 1 {
			r.reach(r.takers[i*64+bits.TrailingZeros64(w)].next, found)
		}
	}
	return found
}

// reach puts in the positions to which a place leads by forks alone, but for those behind forks that this round has seen.
func (r *rule) reach(place int, found []uint64) {
	for place < 0 {
		f := &r.forks[^place]
		if f.seen == r.round {
			return
		}
		f.seen = r.round
		if f.one >= 0 {
			put(found, f.one)
		} else {
			r.reach(f.one, found)
		}
		place = f.other
	}
	put(found, place)
}
