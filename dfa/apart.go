package dfa

import (
	"iter"
	"slices"
)

// pair is the state of the one machine and that of the other (or none) to which a row of bytes leads. The row is that of the pair from, and the byte by.
type pair struct {
	one, other, from int
	by               byte
}

// Apart tells the least of the shortest rows of bytes that two machines end by unlike rules.
func Apart(a, b *Machine) ([]byte, bool) {
	known := newGroups(a.Size() + b.Size() + 2)
	join := func(one, other int) bool { return known.join(one+1, a.Size()+1+other+1) }
	join(0, 0)
	found := []pair{{}}
	for at := 0; at < len(found); at++ {
		for p := range steps(a, b, found[at]) {
			p.from = at
			if a.Accept(p.one) != b.Accept(p.other) {
				return rowTo(found, p), true
			}
			// Of two states that earlier pairs hold together we know enough: a row that parts them parts one of these pairs, and the row to that one comes first.
			if join(p.one, p.other) {
				found = append(found, p)
			}
		}
	}
	return nil, false
}

// steps goes through the pairs behind a pair, by rising bytes; bytes side by side that lead to the same pair are one step.
func steps(a, b *Machine, p pair) iter.Seq[pair] {
	return func(yield func(pair) bool) {
		last := pair{one: none, other: none}
		for by := range 256 {
			next := pair{one: a.Next(p.one, by), other: b.Next(p.other, by), by: byte(by)}
			if next.one == last.one && next.other == last.other {
				continue
			}
			if !yield(next) {
				return
			}
			last = next
		}
	}
}

// rowTo tells the row that leads to a pair.
func rowTo(found []pair, p pair) []byte {
	row := []byte{p.by}
	for p.from != 0 {
		p = found[p.from]
		row = append(row, p.by)
	}
	slices.Reverse(row)
	return row
}

// groups holds numbers together: each tells another one of its group, and the head of a group itself.
type groups []int

func newGroups(size int) groups {
	g := make(groups, size)
	for n := range g {
		g[n] = n
	}
	return g
}

func (g groups) head(n int) int {
	for g[n] != n {
		g[n] = g[g[n]]
		n = g[n]
	}
	return n
}

// join makes the groups of two numbers one, and asks whether they were two.
func (g groups) join(a, b int) bool {
	a, b = g.head(a), g.head(b)
	g[a] = b
	return a != b
}
