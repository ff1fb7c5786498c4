package spec

import (
	"slices"

	"graft/api"
	"graft/expr"
)

// The names of a spec's lists, as faults tell them.
const (
	inLex         = "lex"
	inNames       = "names"
	inStart       = "start"
	inProductions = "productions"
	inRight       = "right"
	inText        = "text"
)

// checker goes through a spec, and throws the first fault.
type checker struct {
	spec     api.Spec
	taken    map[string]struct{} // the names ahead
	patterns []string            // the texts of the rules' patterns, that none is written twice
}

func newChecker(s api.Spec) *checker {
	return &checker{spec: s, taken: map[string]struct{}{}}
}

// whole asks all but the length of the text.
func (c *checker) whole() {
	c.sizes()
	for i, r := range c.spec.Lex {
		c.rule(i, r)
	}
	for i, name := range c.spec.Names {
		c.name(i, name, inNames)
	}
	if !within(c.spec.Start, len(c.spec.Names)) {
		fail(api.ErrStart, 0, inStart)
	}
	ahead := -1 // so that the first production must be one of the first name
	for i, p := range c.spec.Productions {
		c.production(i, p, ahead)
		ahead = p.Left
	}
	if ahead != len(c.spec.Names)-1 {
		fail(api.ErrPrint, len(c.spec.Productions), inProductions)
	}
}

func (c *checker) sizes() {
	checkSize(len(c.spec.Lex), api.MaxLex, 0, inLex)
	checkSize(len(c.spec.Names), api.MaxNames, 0, inNames)
	checkSize(len(c.spec.Productions), api.MaxProductions, 0, inProductions)
	for i, p := range c.spec.Productions {
		checkSize(len(p.Right), api.MaxRight, i, inRight)
	}
}

func checkSize(n, most, at int, list string) {
	if n > most {
		fail(api.ErrLong, at, list)
	}
}

func (c *checker) rule(at int, r api.LexRule) {
	c.name(at, r.Name, inLex)
	text, err := expr.Print(r.Expr)
	if err != api.OK {
		fail(err, at, inLex)
	}
	c.patterns = append(c.patterns, text)
}

// name takes a name that none ahead has; rules and nonterminals share them.
func (c *checker) name(at int, name, list string) {
	if !isName(name) {
		fail(api.ErrPrint, at, list)
	}
	if _, twice := c.taken[name]; twice {
		fail(api.ErrTwice, at, list)
	}
	c.taken[name] = struct{}{}
}

// production asks whether one can be written behind one of the name ahead.
func (c *checker) production(at int, p api.Production, ahead int) {
	if !within(p.Left, len(c.spec.Names)) {
		fail(api.ErrIndex, at, inProductions)
	}
	if p.Left < ahead || p.Left > ahead+1 {
		fail(api.ErrPrint, at, inProductions)
	}
	if slices.ContainsFunc(p.Right, c.noSymbol) {
		fail(api.ErrIndex, at, inProductions)
	}
}

// noSymbol asks whether a symbol stands for nothing of the spec.
func (c *checker) noSymbol(s api.Sym) bool {
	switch s.Kind {
	case api.STerminal:
		return !within(s.N, len(c.spec.Lex))
	case api.SError:
		return s.N != 0
	case api.SName:
		return !within(s.N, len(c.spec.Names))
	}
	return true
}

// within asks whether a number is a place of a list of n.
func within(place, n int) bool { return 0 <= place && place < n }
