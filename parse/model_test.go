package parse_test

import (
	"slices"

	"graft/api"
	"graft/tree"
)

// model is P12 and P13 of DOC.md, word by word: no table, no state. Symbols are numbers: terminals as the document numbers them, the name n as -1 - n.
type model struct {
	s     api.Spec
	items map[string]map[item]bool // of a row of symbols
	ways  map[string][][]int       // of a row of symbols and a terminal
}

// item is a production, -1 the added one, with so much of its right side passed.
type item struct {
	production, passed int
}

func newModel(s api.Spec) *model {
	return &model{s, map[string]map[item]bool{}, map[string][][]int{}}
}

func (m *model) errorAt() int { return len(m.s.Lex) }

func (m *model) endAt() int { return len(m.s.Lex) + 1 }

func nameOf(n int) int { return -1 - n }

// number is a symbol's number.
func (m *model) number(x api.Sym) int {
	switch x.Kind {
	case api.SName:
		return nameOf(x.N)
	case api.SError:
		return m.errorAt()
	}
	return x.N
}

// sym is the symbol of a number.
func (m *model) sym(x int) api.Sym {
	switch {
	case x < 0:
		return api.Sym{Kind: api.SName, N: -1 - x}
	case x == m.errorAt():
		return api.Sym{Kind: api.SError}
	}
	return api.Sym{Kind: api.STerminal, N: x}
}

// terminal is that of a leaf's kind; false: it goes on with nothing.
func (m *model) terminal(kind int) (int, bool) {
	if kind == api.KEnd {
		return m.endAt(), true
	}
	ok := kind >= 0 && kind < len(m.s.Lex) && !m.s.Lex[kind].Trivia
	return kind, ok
}

func (m *model) right(production int) []int {
	if production == -1 {
		return []int{nameOf(m.s.Start)}
	}
	var out []int
	for _, x := range m.s.Productions[production].Right {
		out = append(out, m.number(x))
	}
	return out
}

func key(row []int) string {
	b := make([]byte, 0, 2*len(row))
	for _, x := range row {
		b = append(b, byte(x), byte(x>>8))
	}
	return string(b)
}

// behind are the productions in which a row of symbols can end, and how much of them it has passed: a viable prefix is made of fronts of right sides, each of which stops at the name of the next one.
func (m *model) behind(row []int) map[item]bool {
	k := key(row)
	if set, ok := m.items[k]; ok {
		return set
	}
	set := map[item]bool{}
	var add func(i item)
	add = func(i item) {
		if set[i] {
			return
		}
		set[i] = true
		if right := m.right(i.production); i.passed < len(right) && right[i.passed] < 0 {
			for p, x := range m.s.Productions {
				if nameOf(x.Left) == right[i.passed] {
					add(item{p, 0})
				}
			}
		}
	}
	if len(row) == 0 {
		add(item{-1, 0})
	} else {
		last := row[len(row)-1]
		for i := range m.behind(row[:len(row)-1]) {
			if right := m.right(i.production); i.passed < len(right) && right[i.passed] == last {
				add(item{i.production, i.passed + 1})
			}
		}
	}
	m.items[k] = set
	return set
}

func (m *model) viable(row []int) bool { return len(m.behind(row)) > 0 }

// goes is P12: the productions that make a row of symbols ready for a terminal, and whether they go on.
func (m *model) goes(row []int, a int) ([]int, bool) {
	ways := m.waysOf(row, a)
	if len(ways) > 1 {
		panic("P12: more than one row of productions")
	}
	if len(ways) == 0 {
		return nil, false
	}
	return ways[0], true
}

// waysOf are all rows of productions that make a row of symbols ready for a terminal.
func (m *model) waysOf(row []int, a int) [][]int {
	k := key(append(slices.Clone(row), a))
	if ways, ok := m.ways[k]; ok {
		return ways
	}
	if len(row) > 2000 {
		panic("a row without end")
	}
	var ways [][]int
	if a == m.endAt() && slices.Equal(row, []int{nameOf(m.s.Start)}) || a != m.endAt() && m.viable(append(slices.Clone(row), a)) {
		ways = append(ways, nil)
	}
	for p, x := range m.s.Productions {
		right := m.right(p)
		n := len(row) - len(right)
		if n < 0 || !slices.Equal(row[n:], right) {
			continue
		}
		if up := append(slices.Clone(row[:n]), nameOf(x.Left)); m.viable(up) {
			for _, way := range m.waysOf(up, a) {
				ways = append(ways, append([]int{p}, way...))
			}
		}
	}
	m.ways[k] = ways
	return ways
}

// plain is a tree in the document's words.
type plain struct {
	kind, n int
	leaf    api.Leaf
	kids    []*plain
	node    *tree.Node // which it is, if that is known
}

func plainLeaf(l api.Leaf) *plain { return &plain{kind: api.NLeaf, n: l.Kind, leaf: l} }

// plainOf tells a node's tree.
func plainOf(n *tree.Node) *plain {
	l, _ := n.Leaf()
	p := &plain{kind: n.Kind(), n: n.N(), leaf: l, node: n}
	for i := range n.Count() {
		k, _ := n.Kid(i)
		p.kids = append(p.kids, plainOf(k))
	}
	return p
}

// rows is P14, Ids left out.
func (p *plain) rows() []api.Row {
	out := []api.Row{{Kind: p.kind, N: p.n, Skip: p.leaf.Skip, Len: p.leaf.Len, Kids: len(p.kids)}}
	for _, k := range p.kids {
		out = append(out, k.rows()...)
	}
	return out
}

// leaves are those below a tree.
func (p *plain) leaves() []api.Leaf {
	if p.kind == api.NLeaf {
		return []api.Leaf{p.leaf}
	}
	var out []api.Leaf
	for _, k := range p.kids {
		out = append(out, k.leaves()...)
	}
	return out
}

func (p *plain) failed() bool {
	return p.kind == api.NError || p.kind == api.NBroken || p.kind == api.NLeaf && p.leaf.Kind == api.KBad || slices.ContainsFunc(p.kids, (*plain).failed)
}

// symbols are those of a stack.
func (m *model) symbols(stack []*plain) []int {
	var out []int
	for _, p := range stack {
		switch p.kind {
		case api.NLeaf:
			out = append(out, p.n)
		case api.NInner:
			out = append(out, nameOf(m.s.Productions[p.n].Left))
		case api.NError:
			out = append(out, m.errorAt())
		}
	}
	return out
}

// done makes nodes of productions, one behind the other, of the last trees of a stack.
func (m *model) done(stack []*plain, productions []int) []*plain {
	stack = slices.Clone(stack)
	for _, p := range productions {
		n := len(stack) - len(m.right(p))
		stack = append(stack[:n:n], &plain{kind: api.NInner, n: p, kids: slices.Clone(stack[n:])})
	}
	return stack
}

// ready makes a stack ready for a terminal, if it goes on.
func (m *model) ready(stack []*plain, a int) ([]*plain, bool) {
	done, ok := m.goes(m.symbols(stack), a)
	if !ok {
		return nil, false
	}
	return m.done(stack, done), true
}

// goesLeaf is whether a stack and a leaf of a kind go on.
func (m *model) goesLeaf(stack []*plain, kind int) bool {
	a, ok := m.terminal(kind)
	if ok {
		_, ok = m.goes(m.symbols(stack), a)
	}
	return ok
}

// wrong is P13's step 2, at a leaf that does not go on.
func (m *model) wrong(stack []*plain, leaves []api.Leaf, i int) (j, l int, ok bool) {
	for j = len(stack); j >= 0; j-- {
		front, ok := m.ready(stack[:j], m.errorAt())
		if !ok {
			continue
		}
		front = append(front, &plain{kind: api.NError})
		for l = i; l < len(leaves); l++ {
			if m.goesLeaf(front, leaves[l].Kind) {
				return j, l, true
			}
		}
	}
	return 0, 0, false
}

// mended is a stack with the error node put on.
func (m *model) mended(stack []*plain, leaves []api.Leaf, i, j, l int) []*plain {
	kids := slices.Clone(stack[j:])
	for _, leaf := range leaves[i:l] {
		kids = append(kids, plainLeaf(leaf))
	}
	front, _ := m.ready(stack[:j], m.errorAt())
	return append(front, &plain{kind: api.NError, kids: kids})
}

// tree is P13 and P1101's mishaps. (Room is not looked at.)
func (m *model) tree(leaves []api.Leaf) (*plain, []api.Mishap) {
	var stack []*plain
	var mishaps []api.Mishap
	for i := 0; ; {
		a, _ := m.terminal(leaves[i].Kind)
		if !m.goesLeaf(stack, leaves[i].Kind) {
			j, l, ok := m.wrong(stack, leaves, i)
			if !ok {
				broken := &plain{kind: api.NBroken}
				for _, leaf := range leaves {
					broken.kids = append(broken.kids, plainLeaf(leaf))
				}
				return broken, append(mishaps, api.Mishap{Leaf: i, Keep: 0, On: -1})
			}
			stack = m.mended(stack, leaves, i, j, l)
			mishaps = append(mishaps, api.Mishap{Leaf: i, Keep: j, On: l})
			i = l
			continue
		}
		stack, _ = m.ready(stack, a)
		stack = append(stack, plainLeaf(leaves[i]))
		if a == m.endAt() {
			return &plain{kind: api.NRoot, kids: stack}, mishaps
		}
		i++
	}
}
