package dfa

// blocks parts the sets of a joint machine: those of one block are not told apart so far.
type blocks struct {
	order   []int // the sets, those of a block side by side
	place   []int // of each set its place there
	of      []int // of each set its block
	spans   []span
	touched []int // the blocks with marked sets
}

// span is a block's part of the order: its first sets are the marked ones.
type span struct {
	from, upto, marked int
}

// oneBlock has all sets in one block.
func oneBlock(sets int) *blocks {
	b := &blocks{of: make([]int, sets), spans: []span{{0, sets, 0}}}
	for set := range sets {
		b.order = append(b.order, set)
		b.place = append(b.place, set)
	}
	return b
}

// mark is asked once of a set ahead of a split.
func (b *blocks) mark(set int) {
	s := &b.spans[b.of[set]]
	if s.marked == 0 {
		b.touched = append(b.touched, b.of[set])
	}
	to := s.from + s.marked
	s.marked++
	other := b.order[to]
	b.order[to], b.order[b.place[set]] = set, other
	b.place[set], b.place[other] = to, b.place[set]
}

// split parts the marked sets of each block from the others, and leaves none marked. The new block is the lesser part: to go on from each block once, when its turn comes, is enough then, and takes few steps.
func (b *blocks) split() {
	for _, block := range b.touched {
		old := &b.spans[block]
		cut := old.from + old.marked
		old.marked = 0
		if cut == old.upto {
			continue
		}
		lesser := span{from: old.from, upto: cut}
		if cut-old.from <= old.upto-cut {
			old.from = cut
		} else {
			lesser = span{from: cut, upto: old.upto}
			old.upto = cut
		}
		for _, set := range b.order[lesser.from:lesser.upto] {
			b.of[set] = len(b.spans)
		}
		b.spans = append(b.spans, lesser)
	}
	b.touched = b.touched[:0]
}

// members tells the sets of a block, in new memory.
func (b *blocks) members(block int) []int {
	s := b.spans[block]
	return append([]int(nil), b.order[s.from:s.upto]...)
}

// ahead tells, at the bytes of one class, from which sets each set is reached: the last of them, and of each one the one ahead of it.
type ahead struct {
	last, link []int16
}

func (j *joint) ahead(class int) ahead {
	a := ahead{make([]int16, len(j.next)), make([]int16, len(j.next))}
	for set := range a.last {
		a.last[set] = none
	}
	for set, next := range j.next {
		if to := next[class]; to != none {
			a.link[set] = a.last[to]
			a.last[to] = int16(set)
		}
	}
	return a
}

// alike parts the sets so that those of a block are told apart by no row of bytes.
func (j *joint) alike() *blocks {
	b := oneBlock(len(j.next))
	for rule := range j.rules {
		for set := range j.next {
			if j.accept[set] == int16(rule) {
				b.mark(set)
			}
		}
		b.split()
	}
	var aheads []ahead
	for class := range j.first {
		aheads = append(aheads, j.ahead(class))
	}
	for block := 0; block < len(b.spans); block++ {
		members := b.members(block)
		for _, a := range aheads {
			for _, to := range members {
				for set := a.last[to]; set != none; set = a.link[set] {
					b.mark(int(set))
				}
			}
			b.split()
		}
	}
	return b
}

// least makes the least machine, a state for each block. To go on from the states as they are found, by rising bytes, is to find them in the order of their words.
func least(j *joint) []state {
	b := j.alike()
	number := make([]int16, len(b.spans))
	for block := range number {
		number[block] = none
	}
	number[b.of[0]] = 0
	states := make([]state, 1, len(b.spans))
	states[0].rule = none
	sets := []int{0} // of each state one of its block
	for at := 0; at < len(sets); at++ {
		for by := range 256 {
			to := j.next[sets[at]][j.class[by]]
			if to == none {
				states[at].next[by] = none
				continue
			}
			block := b.of[to]
			if number[block] == none {
				number[block] = int16(len(states))
				states = append(states, state{rule: j.accept[to], from: int16(at), by: byte(by)})
				sets = append(sets, int(to))
			}
			states[at].next[by] = number[block]
		}
	}
	return states
}
