package query

import (
	"graft/api"
	"graft/tree"
)

// anyNode is the head `_`.
func anyNode() func(*tree.Node) bool {
	return func(*tree.Node) bool { return true }
}

// leafOf is the head of the leaves of one kind.
func leafOf(kind int) func(*tree.Node) bool {
	return func(n *tree.Node) bool { return n.Kind() == api.NLeaf && n.N() == kind }
}

// anyInner is the top `_`.
func anyInner() func(*tree.Node) bool {
	return func(n *tree.Node) bool { return n.Kind() != api.NLeaf }
}

// anyError is the top `!`.
func anyError() func(*tree.Node) bool {
	return func(n *tree.Node) bool { return n.Kind() == api.NError }
}

// innerOf is the top that names a nonterminal; lefts are those of the productions. A tree may have numbers that are no production's.
func innerOf(name int, lefts []int) func(*tree.Node) bool {
	return func(n *tree.Node) bool {
		return n.Kind() == api.NInner && n.N() < len(lefts) && lefts[n.N()] == name
	}
}

// checkOf is what a sign asks of a text.
func checkOf(sign byte, want string) func([]byte) bool {
	switch sign {
	case '=':
		return func(text []byte) bool { return string(text) == want }
	case '^':
		return func(text []byte) bool { return len(text) >= len(want) && string(text[:len(want)]) == want }
	}
	return func(text []byte) bool { return string(text) != want }
}
