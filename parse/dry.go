package parse

import "graft/api"

// trial is a dry run: it does on a machine's own stack of states what would be done, and keeps what it takes off, so that back can put it on again. A trial may begin within another, which then waits for its end.
type trial struct {
	p      *Machine
	within *trial
	length int    // how many states there were when it began
	taken  []int  // those of them that it took off, the last one first
	came   []spot // to which it has come, if it is a long one
}

// back puts the stack of states back.
func (t *trial) back() {
	t.p.states = t.p.states[:t.length]
	for i, state := range t.taken {
		t.p.states[t.length-1-i] = state
	}
}

// stayed tells how many states have stayed what they were, from the first one on.
func (t *trial) stayed() int { return t.length - len(t.taken) }

// cut leaves the first states alone.
func (t *trial) cut(keep int) {
	for t.stayed() > keep {
		t.taken = append(t.taken, t.p.states[t.stayed()-1])
	}
	t.p.states = t.p.states[:keep]
}

// push puts a state on.
func (t *trial) push(state int) { t.p.states = append(t.p.states, state) }

// step does the production that is to be done ahead of a terminal, if there is one; it tells the kind of what is to be done.
func (t *trial) step(terminal int) int {
	x := t.p.table.Action(t.p.State(), terminal)
	if x.Kind == api.AReduce {
		s := t.p.grammar.shapes[x.N]
		t.cut(len(t.p.states) - s.length)
		t.push(t.p.table.Goto(t.p.State(), s.left))
	}
	return x.Kind
}

// ready makes the stack ready for a terminal; it tells how many productions that takes, and whether the terminal goes on.
func (t *trial) ready(terminal int) (count int, ok bool) {
	for {
		switch t.step(terminal) {
		case api.AReduce:
			count++
		case api.ANone:
			t.fail()
			return 0, false
		default:
			return count, true
		}
		if count > patience && t.lost(terminal) {
			t.fail()
			return 0, false
		}
	}
}

// dry tells how many productions make the stack ready for a terminal, and whether it goes on.
func (p *Machine) dry(terminal int) (count int, ok bool) {
	t := trial{p: p, length: len(p.states)}
	defer t.back()
	return t.ready(terminal)
}

// dryTo tells how many of the productions that make the stack ready for a terminal come to a state; false, if they do not come to it, or the terminal does not go on.
func (p *Machine) dryTo(terminal, at int) (count int, ok bool) {
	t := trial{p: p, length: len(p.states)}
	defer t.back()
	for done := 0; ; done++ {
		if !ok && p.State() == at {
			count, ok = done, true
		}
		switch t.step(terminal) {
		case api.AReduce:
		case api.ANone:
			return 0, false
		default:
			return count, ok
		}
	}
}
