package pack

import (
	"graft/api"
	"graft/expr"
)

// specReader reads a spec's pack.
type specReader struct {
	reader
	spec   api.Spec // as far as it is read
	depth  int      // how many values of the pattern that is being read lie around what comes
	values int      // how many it has so far
}

func (r *specReader) whole() {
	r.word(specWord)
	r.spec.Lex = many(r.within(r.u1, 0, api.MaxLex), r.rule)
	r.spec.Names = many(r.within(r.u1, 0, api.MaxNames), r.name)
	r.spec.Start = r.place()
	r.spec.Productions = many(r.within(r.u2, 0, api.MaxProductions), r.production)
	r.end()
}

func (r *specReader) name() string { return string(r.text(r.u1, api.MaxName)) }

// place reads the place of a name.
func (r *specReader) place() int { return r.within(r.u1, 0, len(r.spec.Names)-1) }

func (r *specReader) rule() api.LexRule {
	trivia := r.within(r.u1, 0, 1) == 1
	return api.LexRule{Name: r.name(), Trivia: trivia, Expr: r.pattern()}
}

func (r *specReader) production() api.Production {
	left := r.place()
	return api.Production{Left: left, Right: many(r.within(r.u1, 0, api.MaxRight), r.symbol)}
}

func (r *specReader) symbol() api.Sym {
	at := r.at
	kind := r.u1()
	count, is := numbersOf(r.spec, kind)
	if !is {
		fail(at, api.ErrPack)
	}
	n := r.u1()
	if !placeOf(n, count) {
		fail(at, api.ErrPack)
	}
	return api.Sym{Kind: kind, N: n}
}

func (r *specReader) pattern() api.Expr {
	at := r.at
	r.depth, r.values = 0, 0
	e := r.value()
	if expr.Check(e) != api.OK {
		fail(at, api.ErrPack)
	}
	return e
}

// value reads a value of a pattern, with its parts. What is told of it, and how many parts it has, is looked at ahead of these, so that no row of bytes leads deeper than a pattern goes.
func (r *specReader) value() api.Expr {
	at := r.at
	e := api.Expr{Kind: r.u1()}
	r.depth++
	r.values++
	if e.Kind < api.XRange || e.Kind > api.XRepeat || r.depth > api.MaxNest || r.values > api.MaxPositions {
		fail(at, api.ErrPack)
	}
	parts, right := r.numbers(&e)
	if !right {
		fail(at, api.ErrPack)
	}
	e.List = many(parts, r.value)
	r.depth--
	return e
}

// numbers reads the numbers of a value, and tells how many parts follow; false, if it is no value of its kind.
func (r *specReader) numbers(e *api.Expr) (parts int, right bool) {
	switch e.Kind {
	case api.XRange:
		e.From, e.To = r.u1(), r.u1()
		return 0, e.From <= e.To
	case api.XSeq:
		parts = r.u2()
		return parts, parts != 1
	case api.XAlt:
		parts = r.u2()
		return parts, parts >= 2
	}
	e.Min, e.Max = r.u2(), r.most()
	return 1, e.Min <= api.MaxRepeat && (e.Max == -1 || e.Min <= e.Max && e.Max <= api.MaxRepeat)
}

// most reads how often a repetition may come.
func (r *specReader) most() int {
	if n := r.u2(); n != noEnd {
		return n
	}
	return -1
}
