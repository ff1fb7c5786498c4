package dfa

import "graft/api"

// joint is the machine of all rules, whose states are their sets of positions. As no two rules have a position in common, a set is told as a row of numbers: of each rule the number of its own share.
type joint struct {
	rules []*rule
	classes
	sets   table[uint16]
	next   [][]int16 // by set and class
	accept []int16   // of each set the first rule whose end it has
}

func newJoint(lex []api.LexRule) *joint {
	j := &joint{}
	var c cuts
	for _, l := range lex {
		r := newRule(l.Expr)
		c.join(r.net)
		j.rules = append(j.rules, r)
	}
	j.classes = c.classes()
	return j
}

// find goes on from the first set until all are found; false, if there are more than may be.
func (j *joint) find() bool {
	first := make([]uint16, len(j.rules))
	for i := range first {
		first[i] = firstSet
	}
	j.sets.number(first)
	for set := 0; set < len(j.sets.rows); set++ {
		j.accept = append(j.accept, j.ruleOf(set))
		j.next = append(j.next, j.allBehind(set))
		if len(j.sets.rows) > api.MaxSets {
			return false
		}
	}
	return true
}

func (j *joint) ruleOf(set int) int16 {
	for i, r := range j.rules {
		if r.ends(j.sets.rows[set][i]) {
			return int16(i)
		}
	}
	return none
}

// allBehind tells the sets behind a set, by class.
func (j *joint) allBehind(set int) []int16 {
	next := make([]int16, len(j.first))
	row := make([]uint16, len(j.rules))
	for class, b := range j.first {
		next[class] = none
		if j.behind(row, set, b) {
			next[class] = int16(j.sets.number(row))
		}
	}
	return next
}

// behind puts in the set behind a set, at a byte, and asks whether there is something in it.
func (j *joint) behind(row []uint16, set, b int) bool {
	some := false
	for i, r := range j.rules {
		row[i] = r.behind(j.sets.rows[set][i], b)
		some = some || row[i] != emptySet
	}
	return some
}
