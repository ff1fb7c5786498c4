package states

import (
	"strings"

	"graft/api"
)

// copySpec copies a spec with all that hangs on it. Patterns that are too great to be walked are left out.
func copySpec(s api.Spec) api.Spec {
	out := api.Spec{Lex: fresh(s.Lex), Names: fresh(s.Names), Start: s.Start, Productions: fresh(s.Productions)}
	for i, rule := range out.Lex {
		out.Lex[i].Name = strings.Clone(rule.Name)
		out.Lex[i].Expr = copyPattern(rule.Expr)
	}
	for i, name := range out.Names {
		out.Names[i] = strings.Clone(name)
	}
	for i, p := range out.Productions {
		out.Productions[i].Right = fresh(p.Right)
	}
	return out
}

// fresh copies a list. (slices.Clone keeps hold of the array of an empty one.)
func fresh[T any](list []T) []T { return append([]T(nil), list...) }

func copyPattern(e api.Expr) api.Expr {
	left := api.MaxPositions
	if !fits(e, api.MaxNest, &left) {
		return api.Expr{}
	}
	return copyExpr(e)
}

// fits asks whether a pattern has at most left values, at most depth deep in one another; it looks at no more of them, so that patterns without end do not matter.
func fits(e api.Expr, depth int, left *int) bool {
	if depth == 0 || *left == 0 {
		return false
	}
	*left--
	for _, x := range e.List {
		if !fits(x, depth-1, left) {
			return false
		}
	}
	return true
}

func copyExpr(e api.Expr) api.Expr {
	e.List = fresh(e.List)
	for i, x := range e.List {
		e.List[i] = copyExpr(x)
	}
	return e
}
