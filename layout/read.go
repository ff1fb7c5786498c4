package layout

import (
	"slices"
	"strings"

	"graft/api"
	"graft/rope"
	"graft/tree"
)

// reading is a text that was scanned.
type reading struct {
	text     string
	leaves   []api.Leaf // without their Reach
	begins   []int      // where each leaf begins, its trivia first
	comments [][]string // the bytes of those among each leaf's trivia
}

// read scans a text.
func (l *Layout) read(text string) reading {
	r := reading{text: text, leaves: l.leaves(text)}
	at := 0
	for _, leaf := range r.leaves {
		r.begins = append(r.begins, at)
		at += leaf.Skip + leaf.Len
	}
	r.comments = l.comments(r)
	return r
}

// leaves tells the leaves of a text, without their Reach: what a leaf has looked at hangs on what stands behind it.
func (l *Layout) leaves(text string) []api.Leaf {
	r, _ := rope.New([]byte(text))
	list := l.scanner.Leaves(r)
	for i := range list {
		list[i].Reach = 0
	}
	return list
}

// comments tells those ahead of each leaf.
func (l *Layout) comments(r reading) [][]string {
	list := make([][]string, len(r.leaves))
	text, _ := rope.New([]byte(r.text))
	tokens, _ := l.scanner.From(text, 0)
	leaf := 0
	for at, token := range tokens {
		if at == r.own(leaf) {
			leaf++
			continue
		}
		if c := strings.Trim(r.text[at:at+token.Len], blanks); c != "" {
			list[leaf] = append(list[leaf], c)
		}
	}
	return list
}

// own tells where a leaf's own bytes begin.
func (r reading) own(leaf int) int { return r.begins[leaf] + r.leaves[leaf].Skip }

// isOf says whether the leaves are those of a tree.
func (r reading) isOf(n *tree.Node) bool {
	if n.Leafs() != len(r.leaves) {
		return false
	}
	i := 0
	for _, below := range n.Leaves() {
		leaf, _ := below.Leaf()
		leaf.Reach = 0
		if leaf != r.leaves[i] {
			return false
		}
		i++
	}
	return true
}

// bytesOf tells the bytes of a piece, with the trivia between its leaves, without those ahead.
func (r reading) bytesOf(p piece) string {
	if p.from == p.to {
		return ""
	}
	return r.text[r.own(p.from):r.begins[p.to]]
}

// leavesOf tells the leaves of a piece, without the trivia ahead.
func (r reading) leavesOf(p piece) []api.Leaf {
	list := slices.Clone(r.leaves[p.from:p.to])
	if len(list) > 0 {
		list[0].Skip = 0
	}
	return list
}

// keeps says whether the leaves are those of another reading, but for trivia outside of its pieces.
func (r reading) keeps(o reading, pieces []piece) bool {
	if len(r.leaves) != len(o.leaves) {
		return false
	}
	for _, p := range pieces {
		if r.bytesOf(p) != o.bytesOf(p) || !slices.Equal(r.leavesOf(p), o.leavesOf(p)) {
			return false
		}
	}
	return true
}
