package engine_test

import (
	"math"
	"math/rand"
	"slices"
	"testing"

	"graft/api"
	"graft/dfa"
	"graft/engine"
	"graft/expr"
	"graft/sets"
	"graft/states"
	"graft/table"
)

func term(n int) api.Sym { return api.Sym{Kind: api.STerminal, N: n} }

func name(n int) api.Sym { return api.Sym{Kind: api.SName, N: n} }

func makes(left int, right ...api.Sym) api.Production {
	return api.Production{Left: left, Right: right}
}

// base is a small spec in order, to which faults are done.
func base(t testing.TB) api.Spec {
	t.Helper()
	return read(t, "token a = /a/; token b = /b/; skip w = / /; start S; S = A a | error; A = b | ;")
}

// fault is one that is done to a spec; it tells what Compile must say of it.
type fault struct {
	what string
	rank int // faults of a lesser one are told first; of two of the same rank that with the lesser place, if they are of rules
	do   func(s *api.Spec) api.Fault
}

// nest is a pattern with values so deep in one another, the top one counted.
func nest(depth int) api.Expr {
	e := api.Expr{Kind: api.XRange, From: 7, To: 9}
	for range depth - 1 {
		e = api.Expr{Kind: api.XRepeat, Min: 1, Max: 1, List: []api.Expr{e}}
	}
	return e
}

// wide is a pattern with so many values.
func wide(count int) api.Expr {
	return api.Expr{Kind: api.XAlt, List: slices.Repeat([]api.Expr{{Kind: api.XRange, From: 3, To: 4}}, count-1)}
}

// times is a pattern so many times.
func times(n int, e api.Expr) api.Expr {
	return api.Expr{Kind: api.XRepeat, Min: n, Max: n, List: []api.Expr{e}}
}

// endless holds itself.
func endless() api.Expr {
	list := make([]api.Expr, 2)
	list[0] = api.Expr{Kind: api.XSeq, List: list}
	list[1] = list[0]
	return list[0]
}

// sizes are the faults that are told ahead of all else.
func sizes() []fault {
	long := api.Fault{Err: api.ErrLong}
	return []fault{
		{"too many rules", 0, func(s *api.Spec) api.Fault {
			s.Lex = append(s.Lex, make([]api.LexRule, api.MaxLex+1-len(s.Lex))...)
			return long
		}},
		{"too many names", 0, func(s *api.Spec) api.Fault {
			s.Names = append(s.Names, make([]string, api.MaxNames+1-len(s.Names))...)
			return long
		}},
		{"too many productions", 0, func(s *api.Spec) api.Fault {
			s.Productions = append(s.Productions, make([]api.Production, api.MaxProductions+1-len(s.Productions))...)
			return long
		}},
		{"too many symbols", 0, func(s *api.Spec) api.Fault {
			s.Productions[2].Right = slices.Repeat([]api.Sym{term(1)}, api.MaxRight+1)
			return long
		}},
	}
}

// rules are faults of the rule at a place.
func rules(t testing.TB, place int) []fault {
	var out []fault
	for _, c := range []struct {
		what string
		e    api.Expr
		err  api.Errno
	}{
		{"no pattern", api.Expr{}, api.ErrExpr},
		{"a range that falls", api.Expr{Kind: api.XRange, From: 9, To: 8}, api.ErrExpr},
		{"an unknown kind", api.Expr{Kind: math.MinInt}, api.ErrExpr},
		{"too deep", nest(api.MaxNest + 1), api.ErrNest},
		{"too many values", wide(api.MaxPositions + 1), api.ErrLong},
		{"values without end", endless(), api.ErrLong},
		{"too many positions", times(17, wide(242)), api.ErrPositions}, // 17 times 241
		{"the empty text", pattern(t, ""), api.ErrEmpty},
		{"at times the empty text", pattern(t, "(a|b*)(c?|d)"), api.ErrEmpty},
	} {
		out = append(out, fault{c.what, 1, func(s *api.Spec) api.Fault {
			s.Lex[place].Expr = c.e
			return api.Fault{Err: c.err, At: place}
		}})
	}
	return out
}

// grammars are faults of the grammar, in the order in which they are told.
func grammars() []fault {
	return []fault{
		{"a start that is no name", 2, func(s *api.Spec) api.Fault {
			s.Start = 200
			return api.Fault{Err: api.ErrIndex, At: -1}
		}},
		{"a left that is no name", 3, func(s *api.Spec) api.Fault {
			s.Productions[0].Left = -1
			return api.Fault{Err: api.ErrIndex, At: 0}
		}},
		{"a symbol of trivia", 4, func(s *api.Spec) api.Fault {
			s.Productions[1].Right = []api.Sym{term(2)}
			return api.Fault{Err: api.ErrTrivia, At: 1}
		}},
		{"a symbol of none", 5, func(s *api.Spec) api.Fault {
			s.Productions[3].Right = []api.Sym{term(99)}
			return api.Fault{Err: api.ErrIndex, At: 3}
		}},
		{"a name that nothing reaches", 6, func(s *api.Spec) api.Fault {
			s.Names = append(s.Names, "lone")
			s.Productions = append(s.Productions, makes(len(s.Names)-1, term(0)))
			return api.Fault{Err: api.ErrUnreached, At: len(s.Names) - 1}
		}},
		{"a rule that nothing reaches", 7, func(s *api.Spec) api.Fault {
			s.Lex = append(s.Lex, api.LexRule{Expr: api.Expr{Kind: api.XRange, From: 99, To: 99}})
			return api.Fault{Err: api.ErrUnreached, At: len(s.Lex) - 1}
		}},
		{"a name without a sentence", 8, func(s *api.Spec) api.Fault {
			n := len(s.Names)
			s.Names = append(s.Names, "never")
			s.Productions = append(s.Productions, makes(n, name(n), term(0)), makes(0, name(n), term(0)))
			return api.Fault{Err: api.ErrUnproductive, At: n}
		}},
		{"too much over nothing", 9, func(s *api.Spec) api.Fault {
			n := len(s.Names)
			for i := range 9 {
				s.Names = append(s.Names, "double")
				p := makes(n+i, name(n+i+1), name(n+i+1))
				if i == 8 {
					p.Right = nil
				}
				s.Productions = append(s.Productions, p)
			}
			s.Productions = append(s.Productions, makes(0, term(1), term(1), name(n)))
			return api.Fault{Err: api.ErrFull, At: n}
		}},
	}
}

// outcomes are faults of what comes of a spec.
func outcomes(t testing.TB) []fault {
	return []fault{
		{"too many sets", 10, func(s *api.Spec) api.Fault {
			s.Lex[0].Expr = pattern(t, "(a|b)*a(a|b){11}")
			return api.Fault{Err: api.ErrSets}
		}},
		{"too many states", 11, func(s *api.Spec) api.Fault {
			for i := range 64 {
				p := makes(0, term(1), term(1), term(1)) // what the first six symbols are is i, by its bits
				for k := range 6 {
					p.Right = append(p.Right, term(i>>k&1))
				}
				p.Right = append(p.Right, slices.Repeat([]api.Sym{term(0)}, api.MaxRight-len(p.Right))...)
				s.Productions = append(s.Productions, p, api.Production{Left: 0, Right: append(slices.Clone(p.Right[:9]), slices.Repeat([]api.Sym{term(1)}, 7)...)})
			}
			return api.Fault{Err: api.ErrStates}
		}},
		{"a conflict", 12, func(s *api.Spec) api.Fault {
			s.Productions = append(s.Productions, makes(1, term(1)))
			return api.Fault{Err: api.ErrConflict}
		}},
	}
}

func faults(t testing.TB) []fault {
	return slices.Concat(sizes(), rules(t, 1), grammars(), outcomes(t))
}

// wantFault is P1301 of a spec that is not taken.
func wantFault(t *testing.T, what string, s api.Spec, want api.Fault) {
	t.Helper()
	if e, f := engine.Compile(s); e != nil || f != want {
		t.Errorf("P1301: %s: %+v, not %+v", what, f, want)
	}
}

// TestFaults is each fault of P15 by itself.
func TestFaults(t *testing.T) {
	if e, f := engine.Compile(base(t)); e == nil || f != (api.Fault{}) {
		t.Fatalf("P1301: %+v", f)
	}
	for _, x := range faults(t) {
		s := base(t)
		want := x.do(&s)
		wantFault(t, x.what, s, want)
	}
	for place := range 3 {
		for _, x := range rules(t, place) {
			s := base(t)
			want := x.do(&s)
			wantFault(t, x.what, s, want)
		}
	}
}

// TestTwoFaults is the order of P15: of two faults that hold at once the first is told, whichever was done first.
func TestTwoFaults(t *testing.T) {
	all := faults(t)
	for _, x := range all {
		for _, y := range all {
			if x.rank >= y.rank {
				continue
			}
			s := base(t)
			y.do(&s)
			want := x.do(&s)
			wantFault(t, x.what+" behind "+y.what, s, want)
			s = base(t)
			want = x.do(&s)
			if x.rank > 0 { // the second may only be done to a spec that is not too great
				y.do(&s)
				wantFault(t, x.what+" ahead of "+y.what, s, want)
			}
		}
	}
}

// TestTwoRules: of two rules with faults the first is told, whatever they are; one that is trivia is a rule like others.
func TestTwoRules(t *testing.T) {
	for first := range 3 {
		for second := first + 1; second < 3; second++ {
			for _, x := range rules(t, first) {
				for _, y := range rules(t, second) {
					s := base(t)
					y.do(&s)
					want := x.do(&s)
					wantFault(t, x.what+" with "+y.what, s, want)
				}
			}
		}
	}
}

// TestBounds: specs that are just as great as may be are taken.
func TestBounds(t *testing.T) {
	most := api.Spec{Names: make([]string, api.MaxNames)}
	for i := range api.MaxLex {
		most.Lex = append(most.Lex, api.LexRule{Expr: api.Expr{Kind: api.XRange, From: i, To: i}})
	}
	for i := range api.MaxNames - 1 { // each name is begun by two terminals, and leads to the next one
		most.Productions = append(most.Productions, makes(i, term(0), name(i+1)), makes(i, term(1)), makes(i, term(2), term(2)))
	}
	last := api.MaxNames - 1
	for i := range api.MaxProductions - len(most.Productions) {
		most.Productions = append(most.Productions, makes(last, term(i%api.MaxLex), term(i/api.MaxLex)))
	}
	most.Productions[2].Right = slices.Repeat([]api.Sym{term(2)}, api.MaxRight)
	deep := base(t)
	deep.Lex[0].Expr, deep.Lex[1].Expr = nest(api.MaxNest), wide(api.MaxPositions)
	full := base(t)
	full.Lex[1].Expr = times(16, wide(257)) // of 256 positions
	sets := base(t)
	sets.Lex, sets.Productions = sets.Lex[:1], []api.Production{makes(0, name(1), term(0)), makes(1)}
	sets.Lex[0].Expr = pattern(t, "(a|b)*a(a|b){10}") // 2048 sets
	for i, s := range []api.Spec{most, deep, full, sets} {
		e, f := engine.Compile(s)
		if e == nil || f != (api.Fault{}) {
			t.Errorf("P1301: spec %d: %+v", i, f)
		} else if !sameSpec(e.Spec(), s) {
			t.Errorf("P1301: spec %d is told otherwise", i)
		}
	}
}

// states1024 has as many states as asked for: 0, that behind S, and one for each place of right sides that begin with unlike terminals.
func states1024(count int) api.Spec {
	s := api.Spec{Names: []string{"S"}}
	for count -= 2; count > 0; count -= api.MaxRight {
		n := len(s.Lex)
		s.Lex = append(s.Lex, api.LexRule{Expr: api.Expr{Kind: api.XRange, From: n, To: n}})
		s.Productions = append(s.Productions, makes(0, slices.Repeat([]api.Sym{term(n)}, min(count, api.MaxRight))...))
	}
	return s
}

func TestMostStates(t *testing.T) {
	if e, f := engine.Compile(states1024(api.MaxStates)); e == nil || f != (api.Fault{}) {
		t.Errorf("P1301: %+v", f)
	}
	wantFault(t, "a state more", states1024(api.MaxStates+1), api.Fault{Err: api.ErrStates})
}

// TestEmptySpecs: a spec needs a name, and no rule.
func TestEmptySpecs(t *testing.T) {
	wantFault(t, "nothing", api.Spec{}, api.Fault{Err: api.ErrIndex, At: -1})
	e, f := engine.Compile(api.Spec{Names: []string{""}, Productions: []api.Production{{}}})
	if e == nil || f != (api.Fault{}) {
		t.Fatalf("P1301: %+v", f)
	}
	for text, want := range map[string]string{"": "R(0()$)", "ab": "B(##$)"} {
		if s := take(t, opened(t, e, text), 0); shape("", s.rows) != want {
			t.Errorf("P1305: %q: %s, not %s", text, shape("", s.rows), want)
		}
	}
}

// TestNamesAreFree: names of rules and of nonterminals are not looked at.
func TestNamesAreFree(t *testing.T) {
	s := base(t)
	for i := range s.Lex {
		s.Lex[i].Name = "error\x00\xff"
	}
	s.Names = []string{"", ""}
	e, f := engine.Compile(s)
	if e == nil || f != (api.Fault{}) || !sameSpec(e.Spec(), s) {
		t.Errorf("P1301: %+v", f)
	}
	s.Lex[1].Expr = api.Expr{}
	wantFault(t, "a rule with a name", s, api.Fault{Err: api.ErrExpr, At: 1})
}

// first is P15 by its words, each of its parts asked of the layer that says it.
func first(s api.Spec) api.Fault {
	long := func(p api.Production) bool { return len(p.Right) > api.MaxRight }
	if len(s.Lex) > api.MaxLex || len(s.Names) > api.MaxNames || len(s.Productions) > api.MaxProductions || slices.ContainsFunc(s.Productions, long) {
		return api.Fault{Err: api.ErrLong}
	}
	for i, rule := range s.Lex {
		if e := expr.Check(rule.Expr); e != api.OK {
			return api.Fault{Err: e, At: i}
		}
		if expr.Empty(rule.Expr) {
			return api.Fault{Err: api.ErrEmpty, At: i}
		}
	}
	if f := sets.Check(s); f != (api.Fault{}) {
		return f
	}
	if _, _, e := dfa.Build(s.Lex); e != api.OK {
		return api.Fault{Err: e}
	}
	a, f := states.Build(s)
	if f != (api.Fault{}) {
		return f
	}
	if len(table.All(a)) > 0 {
		return api.Fault{Err: api.ErrConflict}
	}
	return api.Fault{}
}

// TestFirstFault is P1301 for many specs with any number of faults.
func TestFirstFault(t *testing.T) {
	r := rand.New(rand.NewSource(1302))
	all := slices.Concat(sizes(), rules(t, 0), rules(t, 1), rules(t, 2), grammars(), grammars(), outcomes(t))
	met := map[api.Errno]int{}
	l := languages()
	for i := range 3000 {
		var s api.Spec
		switch {
		case i%3 == 0:
			s = base(t)
			for range r.Intn(4) {
				if len(s.Lex) <= api.MaxLex && len(s.Names) <= api.MaxNames && len(s.Productions) <= api.MaxProductions {
					all[r.Intn(len(all))].do(&s)
				}
			}
		case i%3 == 1:
			s = changed(r, read(t, l[r.Intn(len(l))]))
		default:
			s = random(t, r)
		}
		want := first(s)
		met[want.Err]++
		e, f := engine.Compile(s)
		if f != want || (e == nil) != (want.Err != api.OK) {
			t.Fatalf("P1301: %+v, not %+v, of %+v", f, want, s)
		}
	}
	for _, e := range []api.Errno{api.OK, api.ErrLong, api.ErrExpr, api.ErrNest, api.ErrPositions, api.ErrEmpty, api.ErrIndex, api.ErrTrivia, api.ErrUnreached, api.ErrUnproductive, api.ErrFull, api.ErrSets, api.ErrStates, api.ErrConflict} {
		if met[e] < 5 {
			t.Errorf("too few specs: %v: %d", e, met[e])
		}
	}
}
