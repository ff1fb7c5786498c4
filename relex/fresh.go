package relex

import (
	"iter"

	"graft/api"
	"graft/rope"
	"graft/scan"
)

// fresh goes over the leaves of a text from a place on, each with its begin. All of them come out of one walk of the
// scanner, and not each by a call of Leaf: where leaf after leaf looks far, such calls would each look there anew.
func fresh(s *scan.Scanner, text *rope.Rope, at int) iter.Seq2[int, api.Leaf] {
	return func(yield func(int, api.Leaf) bool) {
		sorts := sorter{scanner: s, text: text}
		begin, leaf := at, api.Leaf{}
		tokens, _ := s.From(text, at)
		for place, t := range tokens {
			leaf.Reach = max(leaf.Reach, leaf.Skip+t.Reach) // what a piece of trivia looked at may lie behind the leaf's own token
			if sorts.trivia(t.Rule, place) {
				leaf.Skip += t.Len
				continue
			}
			leaf.Kind, leaf.Len = t.Rule, t.Len
			if !yield(begin, leaf) {
				return
			}
			begin, leaf = place+t.Len, api.Leaf{}
		}
		yield(begin, api.Leaf{Kind: api.KEnd, Skip: leaf.Skip, Reach: leaf.Skip + 1})
	}
}

// What is known of a rule.
const (
	unasked = iota
	own
	trivial
)

// sorter knows which rules are those of trivia. A scanner does not tell it, but its leaves do; so they are asked once
// for each rule.
type sorter struct {
	scanner *scan.Scanner
	text    *rope.Rope
	known   [api.MaxLex]int
}

// trivia says whether a rule, of which a token stands at a place, is one of trivia.
func (s *sorter) trivia(rule, place int) bool {
	if rule == api.KBad {
		return false
	}
	if s.known[rule] == unasked {
		s.known[rule] = own
		if leaf, _ := s.scanner.Leaf(s.text, place); leaf.Skip > 0 {
			s.known[rule] = trivial
		}
	}
	return s.known[rule] == trivial
}
