package pack

import (
	"graft/api"
	"graft/expr"
)

// check says whether a spec has a pack. What comes of its grammar is not asked.
func check(s api.Spec) api.Errno {
	if tooMany(s) {
		return api.ErrLong
	}
	for _, rule := range s.Lex {
		if err := checkRule(rule); err != api.OK {
			return err
		}
	}
	for _, name := range s.Names {
		if len(name) > api.MaxName {
			return api.ErrLong
		}
	}
	if !placeOf(s.Start, len(s.Names)) {
		return api.ErrIndex
	}
	for _, p := range s.Productions {
		if !rightIndices(s, p) {
			return api.ErrIndex
		}
	}
	return api.OK
}

// tooMany asks whether a list of a spec is longer than it may be.
func tooMany(s api.Spec) bool {
	if len(s.Lex) > api.MaxLex || len(s.Names) > api.MaxNames || len(s.Productions) > api.MaxProductions {
		return true
	}
	for _, p := range s.Productions {
		if len(p.Right) > api.MaxRight {
			return true
		}
	}
	return false
}

func checkRule(rule api.LexRule) api.Errno {
	if len(rule.Name) > api.MaxName {
		return api.ErrLong
	}
	return expr.Check(rule.Expr)
}

// rightIndices asks whether a production names nothing that the spec has not.
func rightIndices(s api.Spec, p api.Production) bool {
	if !placeOf(p.Left, len(s.Names)) {
		return false
	}
	for _, x := range p.Right {
		if count, is := numbersOf(s, x.Kind); !is || !placeOf(x.N, count) {
			return false
		}
	}
	return true
}

// numbersOf tells how many numbers, from 0 on, a symbol of that kind may have; false, if there is no such kind.
func numbersOf(s api.Spec, kind int) (count int, is bool) {
	switch kind {
	case api.STerminal:
		return len(s.Lex), true
	case api.SError:
		return 1, true
	case api.SName:
		return len(s.Names), true
	}
	return 0, false
}

func placeOf(n, count int) bool { return 0 <= n && n < count }
