package query_test

import (
	"math/rand"
	"slices"

	"graft/api"
	"graft/tree"
)

// guesser makes queries.
type guesser struct {
	r     *rand.Rand
	s     api.Spec
	text  string
	root  *place // nil: queries of nothing
	words bool   // captures may stand twice in one pattern
	used  []string
}

// query is one of one to three patterns.
func (g *guesser) query() (out []*ask) {
	for range 1 + g.r.Intn(3)*g.r.Intn(2) {
		g.used = nil
		if g.root == nil || g.r.Intn(5) == 0 {
			out = append(out, g.pattern(3))
		} else {
			out = append(out, g.like(g.root.walk[g.r.Intn(len(g.root.walk))], 4))
		}
	}
	return out
}

// pattern is any one, of so many levels.
func (g *guesser) pattern(levels int) *ask {
	a := &ask{}
	switch n := g.r.Intn(10); {
	case n < 3:
		a.head = "_!$"[n : n+1]
	case n < 6 || levels == 0:
		a.name = g.rule()
	default:
		g.bracket(a, levels)
	}
	for g.r.Intn(5) == 0 {
		a.checks = append(a.checks, test{"=^-"[g.r.Intn(3)], g.bytes()})
	}
	g.capture(a)
	return a
}

// rule is the name of a rule that is no trivia; `_` is a head, if there is none.
func (g *guesser) rule() string {
	for range 30 {
		if l := g.s.Lex[g.r.Intn(len(g.s.Lex))]; !l.Trivia {
			return l.Name
		}
	}
	panic("no rule")
}

func (g *guesser) bracket(a *ask, levels int) {
	a.open = true
	switch n := g.r.Intn(6); n {
	case 0, 1:
		a.head = "_!"[n : n+1]
	default:
		a.name = g.s.Names[g.r.Intn(len(g.s.Names))]
	}
	for g.r.Intn(2) == 0 {
		a.parts = append(a.parts, piece{g.r.Intn(3) == 0, g.r.Intn(3) == 0, g.pattern(levels - 1)})
	}
	a.last = g.r.Intn(5) == 0
}

// bytes are some of the text, or any.
func (g *guesser) bytes() string {
	if len(g.text) > 0 && g.r.Intn(4) > 0 {
		at := g.r.Intn(len(g.text))
		return g.text[at:min(len(g.text), at+g.r.Intn(4))]
	}
	out := make([]byte, g.r.Intn(3))
	for i := range out {
		out[i] = byte(g.r.Intn(256))
	}
	return string(out)
}

// capture gives a pattern a word, at times.
func (g *guesser) capture(a *ask) {
	if g.r.Intn(5) > 2 {
		return
	}
	word := []string{"a", "b", "it", "x_1", "Zz", "c", "d", "e"}[g.r.Intn(8)]
	if g.words && g.r.Intn(3) == 0 || !slices.Contains(g.used, word) {
		a.word = word
		g.used = append(g.used, word)
	}
}

// like is a pattern that fits a node, or nearly.
func (g *guesser) like(p *place, levels int) *ask {
	a := &ask{}
	if g.r.Intn(12) == 0 {
		return g.pattern(1)
	}
	g.likeHead(a, p)
	if a.open && levels > 0 {
		g.likeParts(a, p, levels)
	}
	if g.r.Intn(6) == 0 {
		text := g.text[p.from:p.to]
		switch g.r.Intn(6) {
		case 0, 1:
			a.checks = append(a.checks, test{'=', text})
		case 2, 3:
			a.checks = append(a.checks, test{'^', text[:g.r.Intn(len(text)+1)]})
		case 4:
			a.checks = append(a.checks, test{'-', g.bytes()})
		case 5:
			a.checks = append(a.checks, test{'-', text + "z"}, test{'^', ""}, test{"=^-"[g.r.Intn(3)], g.bytes()})
		}
	}
	g.capture(a)
	return a
}

// likeHead is a head that fits.
func (g *guesser) likeHead(a *ask, p *place) {
	a.open = p.kind != api.NLeaf
	switch {
	case g.r.Intn(6) == 0:
		a.head = "_"
		a.open = a.open && g.r.Intn(3) > 0
	case p.kind == api.NError:
		a.head = "!"
	case p.kind == api.NInner && p.n < len(g.s.Productions) && within(g.s.Productions[p.n].Left, len(g.s.Names)):
		a.name = g.s.Names[g.s.Productions[p.n].Left]
	case p.kind == api.NLeaf && p.n == api.KBad:
		a.head = "!"
	case p.kind == api.NLeaf && p.n == api.KEnd:
		a.head = "$"
	case p.kind == api.NLeaf && within(p.n, len(g.s.Lex)) && !g.s.Lex[p.n].Trivia:
		a.name = g.s.Lex[p.n].Name
	default:
		a.head = "_"
	}
}

func within(n, size int) bool { return n >= 0 && n < size }

// likeParts are parts for some children, with dots where they stand so.
func (g *guesser) likeParts(a *ask, p *place, levels int) {
	last := -1
	for i, kid := range p.kids {
		if g.r.Intn(5) < 2 || len(a.parts) == 4 {
			continue
		}
		x := piece{near: i == last+1 && g.r.Intn(3) > 0 || g.r.Intn(20) == 0, deep: g.r.Intn(3) == 0}
		to := kid
		if x.deep {
			to = kid.walk[g.r.Intn(len(kid.walk))]
		}
		x.ask = g.like(to, levels-1)
		a.parts = append(a.parts, x)
		last = i
	}
	a.last = last == len(p.kids)-1 && g.r.Intn(2) == 0 || g.r.Intn(20) == 0
}

// wild is a tree of any nodes, some of them at several places, with numbers that may be none.
func wild(r *rand.Rand, most int) *tree.Node {
	s := tree.New()
	var made []*tree.Node
	for range 1 + r.Intn(most) {
		made = append(made, wildNode(r, s, made))
	}
	n, e := s.Make([]int{api.NRoot, api.NBroken, api.NError}[r.Intn(3)], 0, made[max(0, len(made)-3):]...)
	if e != api.OK || n.Size() > 200 || r.Intn(5) == 0 {
		n = made[r.Intn(len(made))]
	}
	for n.Size() > 200 {
		n, _ = n.Kid(r.Intn(n.Count()))
	}
	return n
}

// wildNode is a leaf, or a node over some that are there.
func wildNode(r *rand.Rand, s *tree.Store, made []*tree.Node) *tree.Node {
	if len(made) == 0 || r.Intn(3) == 0 {
		odd := []int{-1, -7, api.MaxText + 1, 1 << 40}
		l := api.Leaf{Kind: r.Intn(7) - 3, Skip: r.Intn(3), Len: r.Intn(3)}
		if r.Intn(8) == 0 {
			l.Skip = odd[r.Intn(4)]
		}
		if r.Intn(8) == 0 {
			l.Len = odd[r.Intn(4)]
		}
		return s.Leaf(l)
	}
	var kids []*tree.Node
	for range r.Intn(5) {
		kids = append(kids, made[max(0, len(made)-1-r.Intn(6))])
	}
	kind, n := api.NInner+r.Intn(4), 0
	if r.Intn(2) == 0 {
		kind = api.NInner
	}
	if kind == api.NInner {
		n = r.Intn(9)
	}
	x, _ := s.Make(kind, n, kids...)
	return x
}
