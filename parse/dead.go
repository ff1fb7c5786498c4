package parse

import "slices"

// patience is how many productions a dry run does before it looks for dead ends: most runs are short, and cost less than to keep anything in mind.
const patience = 8

// spot is where a dry run has come to: so many first states of the machine's own stack, and one more behind them. What becomes of a terminal there hangs on nothing else.
type spot struct {
	own int
	mark
}

// mark is a state, and the terminal ahead of which a run stands in it.
type mark struct {
	state, terminal int
}

// deadEnds are the spots from which runs have come to nothing: the terminal does not go on, or, if it is error, no leaf of the text does behind it, from that on at which a search has begun. So it is for the leaves of the text that come later, too. Without them a text could cost as much as the square of its length: each tree of a stack, and each leaf, may have a run that goes through the whole stack, one and the same way.
type deadEnds struct {
	on [][]mark // by how many states are the stack's own
}

// has says whether a spot is one.
func (d *deadEnds) has(s spot) bool {
	return s.own < len(d.on) && slices.Contains(d.on[s.own], s.mark)
}

// add keeps spots in mind.
func (d *deadEnds) add(list []spot) {
	for _, s := range list {
		for len(d.on) <= s.own {
			d.on = append(d.on, nil)
		}
		if !d.has(s) {
			d.on[s.own] = append(d.on[s.own], s.mark)
		}
	}
}

// cut forgets what hangs on states behind the first ones. Of none there is nothing to be forgotten.
func (d *deadEnds) cut(states int) {
	if d != nil && len(d.on) > states+1 {
		d.on = d.on[:states+1]
	}
}

// lost says whether a run has come to a dead end; if not, it keeps in mind that it came by.
func (t *trial) lost(terminal int) bool {
	last := len(t.p.states) - 1
	if t.p.dead == nil || last > t.own() {
		return false
	}
	s := spot{last, mark{t.p.states[last], terminal}}
	if t.p.dead.has(s) {
		return true
	}
	t.came = append(t.came, s)
	return false
}

// fail makes dead ends of all spots to which a run has come.
func (t *trial) fail() {
	if t.p.dead != nil {
		t.p.dead.add(t.came)
	}
}

// own tells how many states are those of the machine's own stack, from the first one on.
func (t *trial) own() int {
	n := t.stayed()
	for u := t.within; u != nil; u = u.within {
		n = min(n, u.stayed())
	}
	return n
}
