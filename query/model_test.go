package query_test

import (
	"fmt"
	"math/rand"
	"slices"
	"strings"

	"graft/api"
	"graft/tree"
)

// The model: patterns as plain values, with their texts and with what they fit, by P1403's and P1404's words alone.

// ask is a pattern.
type ask struct {
	head   string // _ ! $ or nothing: then name
	name   string
	open   bool // a bracket
	parts  []piece
	last   bool
	checks []test
	word   string
}

// piece is a part of a bracket.
type piece struct {
	near, deep bool
	ask        *ask
}

// test is a check.
type test struct {
	sign byte
	text string
}

// isWord says whether a name is a word of P1401.
func isWord(name string) bool {
	for i, c := range []byte(name) {
		if !strings.ContainsRune("abcdefghijklmnopqrstuvwxyzABCDEFGHIJKLMNOPQRSTUVWXYZ", rune(c)) && (i == 0 || !strings.ContainsRune("0123456789_", rune(c))) {
			return false
		}
	}
	return name != ""
}

// inQuotes is a string as P1403 tells it.
func inQuotes(s string) string {
	out := `"`
	for _, c := range []byte(s) {
		switch {
		case c == '"' || c == '\\':
			out += `\` + string(rune(c))
		case c >= 32 && c <= 126:
			out += string(rune(c))
		default:
			out += fmt.Sprintf(`\x%02x`, c)
		}
	}
	return out + `"`
}

// print is P1403's text.
func (a *ask) print() string {
	out := a.head
	if a.head == "" && isWord(a.name) {
		out = a.name
	} else if a.head == "" {
		out = inQuotes(a.name)
	}
	if a.open {
		out = "(" + out
		for _, p := range a.parts {
			out += " "
			if p.near {
				out += ". "
			}
			if p.deep {
				out += "~ "
			}
			out += p.ask.print()
		}
		if a.last {
			out += " ."
		}
		out += ")"
	}
	for _, c := range a.checks {
		out += " " + string(rune(c.sign)) + " " + inQuotes(c.text)
	}
	if a.word != "" {
		out += " @" + a.word
	}
	return out
}

// printAll is the text of a query.
func printAll(l []*ask) string {
	var out []string
	for _, a := range l {
		out = append(out, a.print())
	}
	return strings.Join(out, " ")
}

// tokens are those of a pattern, in some form: names as words or strings, bytes of strings as they are or escaped.
func (a *ask) tokens(r *rand.Rand) (out []string) {
	head := a.head
	if head == "" && isWord(a.name) && r.Intn(3) > 0 {
		head = a.name
	} else if head == "" {
		head = anyQuotes(r, a.name)
	}
	if !a.open {
		out = append(out, head)
	} else {
		out = append(out, "(", head)
		for _, p := range a.parts {
			if p.near {
				out = append(out, ".")
			}
			if p.deep {
				out = append(out, "~")
			}
			out = append(out, p.ask.tokens(r)...)
		}
		if a.last {
			out = append(out, ".")
		}
		out = append(out, ")")
	}
	for _, c := range a.checks {
		out = append(out, string(rune(c.sign)), anyQuotes(r, c.text))
	}
	if a.word != "" {
		out = append(out, "@"+a.word)
	}
	return out
}

// anyQuotes is a string in some form.
func anyQuotes(r *rand.Rand, s string) string {
	out := `"`
	for _, c := range []byte(s) {
		switch plain := c >= 32 && c <= 126; {
		case !plain || r.Intn(6) == 0:
			out += fmt.Sprintf([]string{`\x%02x`, `\x%02X`}[r.Intn(2)], c)
		case c == '"' || c == '\\':
			out += `\` + string(rune(c))
		default:
			out += string(rune(c))
		}
	}
	return out + `"`
}

// joined are tokens with blanks between, where they must stand and where they may.
func joined(r *rand.Rand, tokens []string) (out string) {
	ahead := ""
	for _, x := range tokens {
		blanks := anyBlanks(r)
		for blanks == "" && apart(ahead, x) {
			blanks = anyBlanks(r)
		}
		out, ahead = out+blanks+x, x
	}
	return out + anyBlanks(r)
}

// apart says whether two tokens must have a blank between them.
func apart(a, b string) bool {
	return isWord(strings.TrimPrefix(a, "@")) && isWord("a"+b[:1])
}

func anyBlanks(r *rand.Rand) (out string) {
	for r.Intn(3) == 0 {
		out += " \t\n\r"[r.Intn(4):][:1]
	}
	return out
}

// allTokens are those of a query.
func allTokens(r *rand.Rand, l []*ask) (out []string) {
	for _, a := range l {
		out = append(out, a.tokens(r)...)
	}
	return out
}

// names are P1403's: the words behind `@` as they stand, each once.
func names(l []*ask) (out []string) {
	var visit func(a *ask)
	visit = func(a *ask) {
		for _, p := range a.parts {
			visit(p.ask)
		}
		if a.word != "" && !slices.Contains(out, a.word) {
			out = append(out, a.word)
		}
	}
	for _, a := range l {
		visit(a)
	}
	return out
}

// place is a node of a tree with all that the document says of it.
type place struct {
	kind, n  int
	leaf     api.Leaf
	path     []int
	at       int // where it begins
	from, to int
	kids     []*place
	leaves   []*place
	walk     []*place // it and all below, in the order of Walk
}

// counts is what a leaf's number adds to a Width (P1001).
func counts(n int) int {
	if n < 0 || n > api.MaxText {
		return 0
	}
	return n
}

// places is a tree.
func places(n *tree.Node, path []int, at int) *place {
	p := &place{kind: n.Kind(), n: n.N(), path: path, at: at, from: at, to: at}
	p.walk = []*place{p}
	if l, ok := n.Leaf(); ok {
		p.leaf = l
		p.leaves = []*place{p}
	}
	for i := range n.Count() {
		kid, _ := n.Kid(i)
		k := places(kid, append(slices.Clone(path), i), at)
		at += kid.Width()
		p.kids = append(p.kids, k)
		p.leaves = append(p.leaves, k.leaves...)
		p.walk = append(p.walk, k.walk...)
	}
	if len(p.leaves) > 0 {
		first, last := p.leaves[0], p.leaves[len(p.leaves)-1]
		p.from = first.at + counts(first.leaf.Skip)
		p.to = last.at + counts(last.leaf.Skip) + counts(last.leaf.Len)
	}
	return p
}

// asker is a query of the model, with the spec and the text.
type asker struct {
	s    api.Spec
	l    []*ask
	text string
}

// fitsHead is the head alone, without the parts of a bracket.
func (m *asker) fitsHead(a *ask, p *place) bool {
	isLeaf := p.kind == api.NLeaf
	if !a.open {
		switch a.head {
		case "_":
			return true
		case "!":
			return isLeaf && p.n == api.KBad
		case "$":
			return isLeaf && p.n == api.KEnd
		}
		for i, rule := range m.s.Lex {
			if rule.Name == a.name && !rule.Trivia {
				return isLeaf && p.n == i
			}
		}
		return false
	}
	switch a.head {
	case "_":
		return !isLeaf
	case "!":
		return p.kind == api.NError
	}
	for i, name := range m.s.Names {
		if name == a.name {
			return p.kind == api.NInner && p.n < len(m.s.Productions) && m.s.Productions[p.n].Left == i
		}
	}
	return false
}

// fitsChecks are the checks.
func (m *asker) fitsChecks(a *ask, p *place) bool {
	text := m.text[p.from:p.to]
	for _, c := range a.checks {
		if c.sign == '=' && text != c.text || c.sign == '^' && !strings.HasPrefix(text, c.text) || c.sign == '-' && text == c.text {
			return false
		}
	}
	return true
}

// find goes through the findings of a pattern at a node by trying all ways; false: it was left.
func (m *asker) find(a *ask, p *place, yield func([]api.Cap) bool) bool {
	if !m.fitsHead(a, p) || !m.fitsChecks(a, p) {
		return true
	}
	var caps []api.Cap
	if a.word != "" {
		caps = append(caps, api.Cap{Name: a.word, Path: p.path, From: p.from, To: p.to})
	}
	if !a.open {
		return yield(caps)
	}
	return m.findParts(a, p, 0, -1, caps, yield)
}

// findParts gives children to the parts from i on; the part ahead has the child at last.
func (m *asker) findParts(a *ask, p *place, i, last int, caps []api.Cap, yield func([]api.Cap) bool) bool {
	if i == len(a.parts) {
		return a.last && last != len(p.kids)-1 || yield(caps)
	}
	for c := last + 1; c < len(p.kids); c++ {
		if a.parts[i].near && c != last+1 {
			break
		}
		nodes := p.kids[c].walk
		if !a.parts[i].deep {
			nodes = nodes[:1]
		}
		for _, n := range nodes {
			if !m.find(a.parts[i].ask, n, func(more []api.Cap) bool {
				return m.findParts(a, p, i+1, c, slices.Concat(caps, more), yield)
			}) {
				return false
			}
		}
	}
	return true
}

// all are the first findings of the query, at most so many.
func (m *asker) all(root *place, most int) (out []api.Match) {
	for _, p := range root.walk {
		for i, a := range m.l {
			if !m.find(a, p, func(caps []api.Cap) bool {
				out = append(out, api.Match{Pattern: i, Caps: caps})
				return len(out) < most
			}) {
				return out
			}
		}
	}
	return out
}

// same says whether two findings are.
func same(a, b api.Match) bool {
	return a.Pattern == b.Pattern && slices.EqualFunc(a.Caps, b.Caps, func(x, y api.Cap) bool {
		return x.Name == y.Name && x.From == y.From && x.To == y.To && slices.Equal(x.Path, y.Path)
	})
}
