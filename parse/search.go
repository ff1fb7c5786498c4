package parse

import "graft/tree"

// remedy is how a machine goes on at an error: so many trees stay, so many productions make them ready for the error node, and it goes on with the leaf at a place.
type remedy struct {
	keep, ready, on int
}

// wrong finds the remedy for a leaf of a list, if it does not go on.
func (p *Machine) wrong(leaves []*tree.Node, i int) (remedy, bool) {
	if i < 0 || i >= len(leaves) {
		return remedy{}, false
	}
	p.dead = &deadEnds{}
	defer func() { p.dead = nil }() // the next list may be another one
	if _, ok := p.dry(p.terminal(leaves[i])); ok {
		return remedy{}, false
	}
	return p.search(newOutlook(p, leaves), i)
}

// search finds the remedy for a leaf that does not go on. Trees are given up one by one, so that each costs no more than itself, however many there are.
func (p *Machine) search(o *outlook, i int) (remedy, bool) {
	o.from(i)
	t := trial{p: p, length: len(p.states)}
	defer t.back()
	for keep := len(p.trees); keep >= 0; keep-- {
		t.cut(keep + 1)
		if ready, on, ok := t.mended(o); ok {
			return remedy{keep, ready, on}, true
		}
	}
	return remedy{}, false
}

// mended tells how many productions make the stack, as a trial has it, ready for an error node, and the place of the first leaf that goes on behind that.
func (t *trial) mended(o *outlook) (ready, on int, ok bool) {
	u := trial{p: t.p, within: t, length: len(t.p.states)}
	defer u.back()
	wrong := t.p.grammar.errorAt()
	if ready, ok = u.ready(wrong); !ok {
		return 0, 0, false
	}
	u.push(t.p.table.Action(t.p.State(), wrong).N)
	if on, ok = u.first(o); !ok {
		u.fail()
		return 0, 0, false
	}
	return ready, on, true
}

// first finds the place of the first leaf that goes on behind the stack as a trial has it. Leaves of one terminal go on all or none, so each terminal is tried once.
func (t *trial) first(o *outlook) (place int, ok bool) {
	for n := 0; ; n++ {
		x, more := o.nth(n)
		if !more {
			return 0, false
		}
		if t.goes(x.terminal) {
			return x.place, true
		}
	}
}

// goes says whether a terminal goes on behind the stack as a trial has it.
func (t *trial) goes(terminal int) bool {
	u := trial{p: t.p, within: t, length: len(t.p.states)}
	defer u.back()
	_, ok := u.ready(terminal)
	return ok
}
