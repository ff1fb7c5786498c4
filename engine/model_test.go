package engine_test

import (
	"slices"

	"graft/api"
	"graft/expr"
)

// model is what DOC.md and the chapters say, word by word: P10 to P14 of tokens, leaves and trees, with no machine, no table and no state; P1307 of errors; chapter 5 of kept leaves. Symbols are numbers: terminals as the document numbers them, the name n as -1 - n.
type model struct {
	s     api.Spec
	items map[string]map[item]bool // of a row of symbols
	ways  map[string][][]int       // of a row of symbols and a terminal
}

// item is a production, -1 the added one, with so much of its right side passed.
type item struct {
	production, passed int
}

func newModel(s api.Spec) *model {
	return &model{s, map[string]map[item]bool{}, map[string][][]int{}}
}

// token is P10 and P11's Reach: what stands at a place, how many bytes it has and how many were looked at.
func (m *model) token(text string, at int) (rule, size, reach int) {
	rest := []byte(text[at:])
	rule, size = api.KBad, 0
	for i, x := range m.s.Lex {
		if n, _ := expr.Longest(x.Expr, rest); n > size {
			rule, size = i, n
		}
	}
	for reach = 1; reach <= len(rest) && m.live(rest[:reach]); reach++ {
	}
	return rule, max(size, 1), reach
}

// live is whether bytes begin something that a rule matches.
func (m *model) live(b []byte) bool {
	return slices.ContainsFunc(m.s.Lex, func(x api.LexRule) bool {
		ok, _ := expr.Live(x.Expr, b)
		return ok
	})
}

// leaves is P11.
func (m *model) leaves(text string) (out []api.Leaf) {
	skip, looked := 0, 0
	for at := 0; at < len(text); {
		rule, size, reach := m.token(text, at)
		looked = max(looked, skip+reach)
		at += size
		if rule != api.KBad && m.s.Lex[rule].Trivia {
			skip += size
			continue
		}
		out = append(out, api.Leaf{Kind: rule, Skip: skip, Len: size, Reach: looked})
		skip, looked = 0, 0
	}
	return append(out, api.Leaf{Kind: api.KEnd, Skip: skip, Reach: skip + 1})
}

// begins tells where leaves begin, and at last where they end.
func begins(l []api.Leaf) []int {
	out := []int{0}
	for _, x := range l {
		out = append(out, out[len(out)-1]+x.Skip+x.Len)
	}
	return out
}

// kept is P502 and P503: how many leaves an edit keeps, ahead and behind.
func kept(old, now []api.Leaf, e api.Edit) (ahead, behind int) {
	a, b := begins(old), begins(now)
	for ahead < len(old) && a[ahead]+old[ahead].Reach <= e.At {
		ahead++
	}
	for m := 1; m <= min(len(old), len(now)); m++ {
		i, k := len(old)-m, len(now)-m
		if a[i] >= e.At+e.Del && b[k] >= e.At+len(e.Ins) && a[len(old)]-a[i] == b[len(now)]-b[k] {
			behind = m
		}
	}
	return ahead, behind
}

func (m *model) errorAt() int { return len(m.s.Lex) }

func (m *model) endAt() int { return len(m.s.Lex) + 1 }

func nameOf(n int) int { return -1 - n }

// number is a symbol's number.
func (m *model) number(x api.Sym) int {
	switch x.Kind {
	case api.SName:
		return nameOf(x.N)
	case api.SError:
		return m.errorAt()
	}
	return x.N
}

// terminal is that of a leaf's kind; false: it goes on with nothing.
func (m *model) terminal(kind int) (int, bool) {
	if kind == api.KEnd {
		return m.endAt(), true
	}
	return kind, kind != api.KBad
}

func (m *model) right(production int) []int {
	if production == -1 {
		return []int{nameOf(m.s.Start)}
	}
	var out []int
	for _, x := range m.s.Productions[production].Right {
		out = append(out, m.number(x))
	}
	return out
}

func key(row []int) string {
	b := make([]byte, 0, 2*len(row))
	for _, x := range row {
		b = append(b, byte(x), byte(x>>8))
	}
	return string(b)
}

// behind are the productions in which a row of symbols can end, and how much of them it has passed: a viable prefix is made of fronts of right sides, each of which stops at the name of the next one.
func (m *model) behind(row []int) map[item]bool {
	k := key(row)
	if set, ok := m.items[k]; ok {
		return set
	}
	set := map[item]bool{}
	var add func(i item)
	add = func(i item) {
		if set[i] {
			return
		}
		set[i] = true
		if right := m.right(i.production); i.passed < len(right) && right[i.passed] < 0 {
			for p, x := range m.s.Productions {
				if nameOf(x.Left) == right[i.passed] {
					add(item{p, 0})
				}
			}
		}
	}
	if len(row) == 0 {
		add(item{-1, 0})
	} else {
		last := row[len(row)-1]
		for i := range m.behind(row[:len(row)-1]) {
			if right := m.right(i.production); i.passed < len(right) && right[i.passed] == last {
				add(item{i.production, i.passed + 1})
			}
		}
	}
	m.items[k] = set
	return set
}

func (m *model) viable(row []int) bool { return len(m.behind(row)) > 0 }

// goes is P12: the productions that make a row of symbols ready for a terminal, and whether they go on.
func (m *model) goes(row []int, a int) ([]int, bool) {
	ways := m.waysOf(row, a)
	if len(ways) > 1 {
		panic("P12: more than one row of productions")
	}
	if len(ways) == 0 {
		return nil, false
	}
	return ways[0], true
}

// waysOf are all rows of productions that make a row of symbols ready for a terminal.
func (m *model) waysOf(row []int, a int) [][]int {
	k := key(append(slices.Clone(row), a))
	if ways, ok := m.ways[k]; ok {
		return ways
	}
	var ways [][]int
	if a == m.endAt() && slices.Equal(row, []int{nameOf(m.s.Start)}) || a != m.endAt() && m.viable(append(slices.Clone(row), a)) {
		ways = append(ways, nil)
	}
	for p, x := range m.s.Productions {
		right := m.right(p)
		n := len(row) - len(right)
		if n < 0 || !slices.Equal(row[n:], right) {
			continue
		}
		if up := append(slices.Clone(row[:n]), nameOf(x.Left)); m.viable(up) {
			for _, way := range m.waysOf(up, a) {
				ways = append(ways, append([]int{p}, way...))
			}
		}
	}
	m.ways[k] = ways
	return ways
}

// plain is a tree in the document's words.
type plain struct {
	kind, n int
	leaf    api.Leaf
	kids    []*plain
}

func plainLeaf(l api.Leaf) *plain { return &plain{kind: api.NLeaf, n: l.Kind, leaf: l} }

// rows is P14, Ids left out.
func (p *plain) rows() []api.Row {
	out := []api.Row{{Kind: p.kind, N: p.n, Skip: p.leaf.Skip, Len: p.leaf.Len, Kids: len(p.kids)}}
	for _, k := range p.kids {
		out = append(out, k.rows()...)
	}
	return out
}

// leafs tells how many leaves there are below a tree.
func (p *plain) leafs() int {
	if p.kind == api.NLeaf {
		return 1
	}
	n := 0
	for _, k := range p.kids {
		n += k.leafs()
	}
	return n
}

// upper tells the leaves of each error node that lies below no other one: the place of the first, and of the one behind the last. The first leaf of the tree has the place from.
func (p *plain) upper(from int) (out [][2]int) {
	if p.kind == api.NError {
		return [][2]int{{from, from + p.leafs()}}
	}
	for _, k := range p.kids {
		out = append(out, k.upper(from)...)
		from += k.leafs()
	}
	return out
}

// errors is P1307.
func (p *plain) errors(leaves []api.Leaf) (out []api.Span) {
	at := begins(leaves)
	if p.kind == api.NBroken {
		return []api.Span{{From: 0, To: at[len(leaves)]}}
	}
	for _, x := range p.upper(0) {
		s := api.Span{From: at[x[0]] + leaves[x[0]].Skip, To: at[x[1]]}
		if x[0] == x[1] {
			s.To = s.From
		}
		out = append(out, s)
	}
	return out
}

// symbols are those of a stack.
func (m *model) symbols(stack []*plain) []int {
	var out []int
	for _, p := range stack {
		switch p.kind {
		case api.NLeaf:
			out = append(out, p.n)
		case api.NInner:
			out = append(out, nameOf(m.s.Productions[p.n].Left))
		case api.NError:
			out = append(out, m.errorAt())
		}
	}
	return out
}

// ready makes a stack ready for a terminal, if it goes on.
func (m *model) ready(stack []*plain, a int) ([]*plain, bool) {
	done, ok := m.goes(m.symbols(stack), a)
	if !ok {
		return nil, false
	}
	stack = slices.Clone(stack)
	for _, p := range done {
		n := len(stack) - len(m.right(p))
		stack = append(stack[:n:n], &plain{kind: api.NInner, n: p, kids: slices.Clone(stack[n:])})
	}
	return stack, true
}

// goesLeaf is whether a stack and a leaf of a kind go on.
func (m *model) goesLeaf(stack []*plain, kind int) bool {
	a, ok := m.terminal(kind)
	if ok {
		_, ok = m.goes(m.symbols(stack), a)
	}
	return ok
}

// mended is P13's step 2, at a leaf that does not go on: the stack with the error node put on, and the leaf at which it goes on.
func (m *model) mended(stack []*plain, leaves []api.Leaf, i int) ([]*plain, int, bool) {
	for j := len(stack); j >= 0; j-- {
		front, ok := m.ready(stack[:j], m.errorAt())
		if !ok {
			continue
		}
		node := &plain{kind: api.NError, kids: slices.Clone(stack[j:])}
		front = append(front, node)
		for l := i; l < len(leaves); l++ {
			if m.goesLeaf(front, leaves[l].Kind) {
				return front, l, true
			}
			node.kids = append(node.kids, plainLeaf(leaves[l]))
		}
	}
	return nil, 0, false
}

// tree is P13. (Room is not looked at.)
func (m *model) tree(leaves []api.Leaf) *plain {
	var stack []*plain
	for i := 0; ; {
		if !m.goesLeaf(stack, leaves[i].Kind) {
			next, l, ok := m.mended(stack, leaves, i)
			if !ok {
				broken := &plain{kind: api.NBroken}
				for _, leaf := range leaves {
					broken.kids = append(broken.kids, plainLeaf(leaf))
				}
				return broken
			}
			stack, i = next, l
			continue
		}
		a, _ := m.terminal(leaves[i].Kind)
		stack, _ = m.ready(stack, a)
		stack = append(stack, plainLeaf(leaves[i]))
		if a == m.endAt() {
			return &plain{kind: api.NRoot, kids: stack}
		}
		i++
	}
}
