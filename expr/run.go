package expr

import (
	"math/bits"

	"graft/api"
)

// mostStops bounds what a run keeps in mind: some patterns have more stops than there is room.
const mostStops = 1024

// set holds takers of a net, and theEnd, a bit each.
type set [firstFork/64 + 1]uint64

// chunk is a word of a set that is not 0: most sets have few of them.
type chunk struct {
	at   int
	bits uint64
}

func (s *set) put(place int) { s[place/64] |= 1 << (place % 64) }

func (s set) has(place int) bool { return s[place/64]>>(place%64)&1 == 1 }

func (s set) chunks() []chunk {
	var out []chunk
	for i, w := range s {
		if w != 0 {
			out = append(out, chunk{i, w})
		}
	}
	return out
}

func (s *set) join(add []chunk) {
	for _, c := range add {
		s[c.at] |= c.bits
	}
}

// stop is a set that a front of the bytes leads to, with the ways from it that were gone already.
type stop struct {
	set  set
	ways []way
}

type way struct {
	by byte
	to *stop
}

// run tells how many bytes the longest front of b has that e matches (-1: there is none), and how many are read ahead of the first one with which nothing begins that e matches.
func run(e api.Expr, b []byte) (longest, read int, err api.Errno) {
	err = Check(e)
	if err == api.OK && len(b) > api.MaxText {
		err = api.ErrLong
	}
	if err == api.OK {
		longest, read = newNet(e).run(b)
	}
	return longest, read, err
}

func (n *net) run(b []byte) (longest, read int) {
	longest = -1
	known := map[set]*stop{}
	here := stopOf(known, n.reach(n.first))
next:
	if here.set.has(theEnd) {
		longest = read
	}
	if read == len(b) {
		return longest, read
	}
	for _, w := range here.ways {
		if w.by == b[read] {
			here = w.to
			read++
			goto next
		}
	}
	then := n.step(here.set, b[read])
	if then == (set{}) {
		return longest, read
	}
	to := stopOf(known, then)
	here.ways = append(here.ways, way{b[read], to})
	here = to
	read++
	goto next
}

// step tells the set behind a set and a byte.
func (n *net) step(from set, c byte) set {
	var to set
	for _, part := range from.chunks() {
		for w := part.bits; w != 0; w &= w - 1 {
			place := part.at*64 + bits.TrailingZeros64(w)
			if place != theEnd {
				to.join(n.take(place, c))
			}
		}
	}
	return to
}

// stopOf tells the stop of a set. When there are too many all are forgotten: the ways of those that come then lead to none of the old ones.
func stopOf(known map[set]*stop, s set) *stop {
	if found := known[s]; found != nil {
		return found
	}
	if len(known) == mostStops {
		clear(known)
	}
	made := &stop{set: s}
	known[s] = made
	return made
}
