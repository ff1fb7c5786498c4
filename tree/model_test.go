package tree_test

import (
	"math"
	"math/rand"
	"slices"
	"strconv"
	"testing"

	"graft/api"
	"graft/tree"
)

// plain is a tree in the chapter's words, with nothing summed up. A plain tree may hang in others, and more than once, as its node does.
type plain struct {
	kind, n int
	leaf    api.Leaf
	kids    []*plain
	node    *tree.Node // what the store made for it
}

// bytes is P1005's Width, with P1001's rule for numbers that no text has.
func (p *plain) bytes() int {
	sum := 0
	if p.kind == api.NLeaf {
		for _, n := range []int{p.leaf.Skip, p.leaf.Len} {
			if n >= 0 && n <= 262144 {
				sum += n
			}
		}
	}
	for _, k := range p.kids {
		sum += k.bytes()
	}
	return sum
}

// leafs is P1005's Leafs.
func (p *plain) leafs() int {
	if p.kind == api.NLeaf {
		return 1
	}
	sum := 0
	for _, k := range p.kids {
		sum += k.leafs()
	}
	return sum
}

// size is P1005's Size.
func (p *plain) size() int {
	sum := 1
	for _, k := range p.kids {
		sum += k.size()
	}
	return sum
}

// failed is P1005's Failed.
func (p *plain) failed() bool {
	if p.kind == api.NError || p.kind == api.NBroken || p.kind == api.NLeaf && p.leaf.Kind == api.KBad {
		return true
	}
	return slices.ContainsFunc(p.kids, (*plain).failed)
}

// text tells a plain tree, but for the Reach of its leaves.
func (p *plain) text() string {
	s := strconv.Itoa(p.kind) + "." + strconv.Itoa(p.n) + "." + strconv.Itoa(p.leaf.Skip) + "." + strconv.Itoa(p.leaf.Len) + "("
	for _, k := range p.kids {
		s += k.text()
	}
	return s + ")"
}

// row is P14's row of a plain tree's top.
func (p *plain) row() api.Row {
	return api.Row{Kind: p.kind, N: p.n, Skip: p.leaf.Skip, Len: p.leaf.Len, Kids: len(p.kids), Id: p.node.Number()}
}

// spot is one of the places of a tree at which a node hangs.
type spot struct {
	of   *plain
	at   int
	path []int
}

// spots are all places of a tree, in the order of rows.
func (p *plain) spots() []spot { return hung(nil, p, 0, nil) }

// hung adds the places of a tree that hangs at a place, by a path.
func hung(l []spot, p *plain, at int, path []int) []spot {
	l = append(l, spot{p, at, path})
	for i, k := range p.kids {
		l = hung(l, k, at, append(slices.Clone(path), i))
		at += k.bytes()
	}
	return l
}

// leafed are those places at which leaves hang.
func leafed(l []spot) []spot {
	var out []spot
	for _, s := range l {
		if s.of.kind == api.NLeaf {
			out = append(out, s)
		}
	}
	return out
}

// grove makes plain trees and their nodes, out of one store.
type grove struct {
	t   *testing.T
	s   *tree.Store
	all []*plain
}

func newGrove(t *testing.T) *grove { return &grove{t: t, s: tree.New()} }

// leaf makes a leaf.
func (g *grove) leaf(l api.Leaf) *plain {
	g.t.Helper()
	return g.keep(&plain{kind: api.NLeaf, n: l.Kind, leaf: l, node: leaf(g.t, g.s, l)})
}

// over makes a node over children.
func (g *grove) over(kind, n int, kids ...*plain) *plain {
	g.t.Helper()
	var l []*tree.Node
	for _, k := range kids {
		l = append(l, k.node)
	}
	return g.keep(&plain{kind: kind, n: n, kids: kids, node: node(g.t, g.s, kind, n, l...)})
}

func (g *grove) keep(p *plain) *plain {
	g.all = append(g.all, p)
	return p
}

// grow adds a random leaf, or a random node over some of the trees that there are; odd: leaves with numbers that no text has stand among the others.
func (g *grove) grow(r *rand.Rand, odd bool) *plain {
	g.t.Helper()
	if len(g.all) == 0 || r.Intn(3) == 0 {
		return g.leaf(someLeaf(r, odd))
	}
	kind, n := api.NInner+r.Intn(4), 0
	if kind != api.NInner && r.Intn(2) == 0 {
		kind = api.NInner
	}
	if kind == api.NInner {
		n = r.Intn(5)
	}
	var kids []*plain
	for left := 60; left > 0 && len(kids) < 5 && r.Intn(4) > 0; {
		k := g.all[len(g.all)-1-r.Intn(min(len(g.all), 12))]
		if left -= k.size(); left > 0 {
			kids = append(kids, k)
		}
	}
	return g.over(kind, n, kids...)
}

// someLeaf is a random leaf, often one of no bytes.
func someLeaf(r *rand.Rand, odd bool) api.Leaf {
	l := api.Leaf{Kind: r.Intn(4) - 2, Skip: max(0, r.Intn(4)-2), Len: r.Intn(3), Reach: r.Intn(9)}
	if odd && r.Intn(2) == 0 {
		strange := []int{-1, math.MinInt, api.MaxText, api.MaxText + 1, math.MaxInt, 1 << 40}
		l.Skip = strange[r.Intn(len(strange))]
		l.Len = append(strange, 0, 1, 2)[r.Intn(len(strange)+3)]
		l.Reach = -r.Intn(9)
	}
	return l
}

// mark is where a plain cursor stands in a list of places.
type mark struct {
	all []spot
	is  int
}

// goTo moves to the place with a path, if there is one.
func (m *mark) goTo(path []int) bool {
	i := slices.IndexFunc(m.all, func(s spot) bool { return slices.Equal(s.path, path) })
	if i >= 0 {
		m.is = i
	}
	return i >= 0
}

// down, up, aside and to are P1009 and P1010, by paths alone.
func (m *mark) down(i int) bool { return m.goTo(append(slices.Clone(m.all[m.is].path), i)) }

func (m *mark) up() bool {
	path := m.all[m.is].path
	return len(path) > 0 && m.goTo(path[:len(path)-1])
}

func (m *mark) aside(by int) bool {
	path := slices.Clone(m.all[m.is].path)
	if len(path) == 0 {
		return false
	}
	path[len(path)-1] += by
	return m.goTo(path)
}

func (m *mark) to(at int) bool {
	for i, s := range m.all {
		if s.of.kind == api.NLeaf && s.at <= at && at < s.at+s.of.bytes() {
			m.is = i
			return true
		}
	}
	return false
}
