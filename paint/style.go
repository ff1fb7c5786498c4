package paint

import (
	"cmp"

	"graft/api"
	"graft/query"
	"graft/tree"
)

// style paints what its query finds in the tree of a text.
type style func(c canvas, root *tree.Node, text []byte) api.Errno

// styleOf is the style of a query and a name.
func styleOf(q *query.Query, name string) style {
	return func(c canvas, root *tree.Node, text []byte) api.Errno {
		found, e := its(q, root, text)
		if e != api.OK {
			return e
		}
		for it := range found {
			c.paint(it, name)
		}
		return api.OK
	}
}

// canvas holds the nodes that are painted. Styles come in their order: what comes last stays.
type canvas map[spot]coat

// spot stands for a node that has bytes: no two of one depth begin at one byte.
type spot struct {
	from, depth int
}

// coat is what a node is painted with, and where it ends.
type coat struct {
	to   int
	name string
}

func (c canvas) paint(it api.Cap, name string) {
	if it.From < it.To {
		c[spot{it.From, len(it.Path)}] = coat{it.To, name}
	}
}

// paints tells the rows of bytes of a text of that length, each byte by the lowest node that holds it.
func (c canvas) paints(length int) []api.Paint {
	var b brush
	for _, s := range sorted(c, upperFirst) {
		b.to(s.from)
		b.open = append(b.open, c[s])
	}
	b.to(length)
	return b.done
}

// upperFirst is the order in which a text's nodes begin.
func upperFirst(a, b spot) int {
	return cmp.Or(cmp.Compare(a.from, b.from), cmp.Compare(a.depth, b.depth))
}

// brush goes over a text from its first byte on. The nodes that hold a byte lie in one another: those that are open are told from the highest to the lowest.
type brush struct {
	at   int
	open []coat
	done []api.Paint
}

// to goes on to a place: what ends on the way is closed there.
func (b *brush) to(place int) {
	for len(b.open) > 0 {
		last := b.open[len(b.open)-1]
		b.stroke(min(last.to, place), last.name)
		if last.to > place {
			break
		}
		b.open = b.open[:len(b.open)-1]
	}
	b.at = place
}

// stroke paints the bytes up to a place.
func (b *brush) stroke(to int, name string) {
	if b.at == to {
		return
	}
	if last := len(b.done) - 1; last >= 0 && b.done[last].To == b.at && b.done[last].Name == name {
		b.done[last].To = to
	} else {
		b.done = append(b.done, api.Paint{From: b.at, To: to, Name: name})
	}
	b.at = to
}
