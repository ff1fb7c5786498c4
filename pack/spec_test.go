package pack_test

import (
	"math"
	"math/rand"
	"slices"
	"testing"

	"graft/api"
	"graft/pack"
)

// base is a small spec that has a pack, to which faults are done. Its rule 2 is trivia.
func base(t testing.TB) api.Spec {
	t.Helper()
	return read(t, "token a = /a/; token b = /b|cd/; skip w = / +/; start S; S = A a | error; A = b | ;")
}

// fault is one that is done to a spec.
type fault struct {
	what string
	rank int // faults of a lesser one are told first; those of one rank are all told alike
	err  api.Errno
	do   func(s *api.Spec)
}

// sizes are the faults that DOC.md's P15 says first.
func sizes() []fault {
	return []fault{
		{"too many rules", 0, api.ErrLong, func(s *api.Spec) {
			s.Lex = append(s.Lex, make([]api.LexRule, api.MaxLex+1-len(s.Lex))...)
		}},
		{"too many names", 0, api.ErrLong, func(s *api.Spec) {
			s.Names = append(s.Names, make([]string, api.MaxNames+1-len(s.Names))...)
		}},
		{"too many productions", 0, api.ErrLong, func(s *api.Spec) {
			s.Productions = append(s.Productions, make([]api.Production, api.MaxProductions+1-len(s.Productions))...)
		}},
		{"too many symbols", 0, api.ErrLong, func(s *api.Spec) {
			s.Productions[2].Right = slices.Repeat([]api.Sym{term(1)}, api.MaxRight+1)
		}},
		{"too many symbols that are none", 0, api.ErrLong, func(s *api.Spec) {
			s.Productions[3].Right = make([]api.Sym, api.MaxRight+1)
		}},
	}
}

// rules are faults of the rule at a place.
func rules(place int) []fault {
	out := []fault{{"a rule's name too long", 10 * (place + 1), api.ErrLong, func(s *api.Spec) { s.Lex[place].Name = long(api.MaxName + 1) }}}
	for _, c := range []struct {
		what string
		e    api.Expr
		err  api.Errno
	}{
		{"no pattern", api.Expr{}, api.ErrExpr},
		{"a range that falls", span(9, 8), api.ErrExpr},
		{"a range beyond the bytes", span(9, 256), api.ErrExpr},
		{"a range below the bytes", span(-1, 5), api.ErrExpr},
		{"an unknown kind", api.Expr{Kind: 5}, api.ErrExpr},
		{"a kind that is a greater number's lowest byte", api.Expr{Kind: 257, From: 1, To: 2}, api.ErrExpr},
		{"a kind below all", api.Expr{Kind: math.MinInt}, api.ErrExpr},
		{"a row of one", seq(span(1, 2)), api.ErrExpr},
		{"a choice of one", alt(span(1, 2)), api.ErrExpr},
		{"a choice of none", alt(), api.ErrExpr},
		{"too many times", times(0, api.MaxRepeat+1, span(1, 2)), api.ErrExpr},
		{"65535 times", times(0, 65535, span(1, 2)), api.ErrExpr},
		{"at most fewer times", times(2, 1, span(1, 2)), api.ErrExpr},
		{"below no times", times(-1, -1, span(1, 2)), api.ErrExpr},
		{"a range with more than it needs", api.Expr{Kind: api.XRange, From: 1, To: 2, Max: 1}, api.ErrExpr},
		{"a range with parts", api.Expr{Kind: api.XRange, List: []api.Expr{span(1, 2)}}, api.ErrExpr},
		{"a part that is none", seq(span(1, 1), times(1, 1, alt(span(1, 1), span(1, 0)))), api.ErrExpr},
		{"too deep", nest(api.MaxNest + 1), api.ErrNest},
		{"too many values", wide(api.MaxPositions + 1), api.ErrLong},
		{"values without end", endless(), api.ErrLong},
		{"too many positions", times(17, 17, wide(242)), api.ErrPositions}, // 17 times 241
	} {
		out = append(out, fault{c.what, 10*(place+1) + 1, c.err, func(s *api.Spec) { s.Lex[place].Expr = c.e }})
	}
	return out
}

// grammars are faults behind those of the rules.
func grammars() []fault {
	out := []fault{
		{"a name too long", 100, api.ErrLong, func(s *api.Spec) { s.Names[0] = long(api.MaxName + 1) }},
		{"the last name too long", 100, api.ErrLong, func(s *api.Spec) { s.Names[len(s.Names)-1] = long(1000) }},
	}
	for _, n := range []int{-1, 2, 256, 1 << 32, math.MaxInt, math.MinInt} {
		out = append(out,
			fault{"a start that is no name", 101, api.ErrIndex, func(s *api.Spec) { s.Start = n }},
			fault{"a left that is no name", 102, api.ErrIndex, func(s *api.Spec) { s.Productions[1].Left = n }},
			fault{"a symbol of no name", 102, api.ErrIndex, func(s *api.Spec) { s.Productions[0].Right[0] = name(n) }},
			fault{"an error with a number", 102, api.ErrIndex, func(s *api.Spec) { s.Productions[1].Right[0].N = n }},
		)
	}
	for _, n := range []int{-1, 3, 256, 1 << 32, math.MaxInt, math.MinInt} {
		out = append(out, fault{"a symbol of no rule", 102, api.ErrIndex, func(s *api.Spec) { s.Productions[2].Right[0] = term(n) }})
	}
	for _, kind := range []int{0, -1, 4, 257, math.MaxInt} {
		out = append(out, fault{"a symbol of no kind", 102, api.ErrIndex, func(s *api.Spec) { s.Productions[0].Right[1] = api.Sym{Kind: kind} }})
	}
	return append(out, fault{"an error with the number 1", 102, api.ErrIndex, func(s *api.Spec) { s.Productions[1].Right[0].N = 1 }})
}

func faults() []fault {
	return slices.Concat(sizes(), rules(0), rules(1), rules(2), grammars())
}

// wantErr holds the error of Spec against one that is known, and against the words of P1801.
func wantErr(t *testing.T, what string, s api.Spec, err api.Errno) {
	t.Helper()
	if b, got := pack.Spec(s); got != err || len(b) > 0 != (err == api.OK) {
		t.Errorf("P1801: %s: %d bytes, %v, not %v", what, len(b), got, err)
	}
	wantSpec(t, what, s)
}

// TestFaults is each fault of P1801 by itself.
func TestFaults(t *testing.T) {
	wantErr(t, "no fault", base(t), api.OK)
	for _, x := range faults() {
		s := base(t)
		x.do(&s)
		wantErr(t, x.what, s, x.err)
	}
}

// TestTwoFaults is the order of P1801: of two faults that hold at once the first is told, whichever was done first.
func TestTwoFaults(t *testing.T) {
	all := faults()
	for _, x := range all {
		for _, y := range all {
			if x.rank >= y.rank {
				continue
			}
			s := base(t)
			y.do(&s)
			x.do(&s)
			wantErr(t, x.what+" behind "+y.what, s, x.err)
			if x.rank == 0 {
				continue // the second may only be done to a spec that is not too great
			}
			s = base(t)
			x.do(&s)
			y.do(&s)
			wantErr(t, x.what+" ahead of "+y.what, s, x.err)
		}
	}
}

// TestBounds: what is just as great as may be has a pack, and it is read again.
func TestBounds(t *testing.T) {
	for _, c := range []struct {
		what string
		do   func(s *api.Spec)
	}{
		{"64 rules", func(s *api.Spec) {
			s.Lex = slices.Repeat(s.Lex[:1], api.MaxLex)
			s.Productions[0].Right[1] = term(api.MaxLex - 1)
		}},
		{"128 names", func(s *api.Spec) {
			s.Names, s.Start = slices.Repeat(s.Names, api.MaxNames/2), api.MaxNames-1
			s.Productions[0] = makes(api.MaxNames-1, name(api.MaxNames-1))
		}},
		{"512 productions", func(s *api.Spec) { s.Productions = slices.Repeat(s.Productions, api.MaxProductions/4) }},
		{"16 symbols", func(s *api.Spec) { s.Productions[3].Right = slices.Repeat([]api.Sym{name(1)}, api.MaxRight) }},
		{"names of 64 bytes", func(s *api.Spec) { s.Names[1], s.Lex[2].Name = long(api.MaxName), long(api.MaxName) }},
		{"names of no bytes", func(s *api.Spec) { s.Names[0], s.Names[1], s.Lex[0].Name = "", "", "" }},
		{"names of any bytes", func(s *api.Spec) { s.Names[0], s.Lex[1].Name = "\xff\x00\n\xc3", "\x00" }},
		{"names that stand twice", func(s *api.Spec) { s.Names[0], s.Names[1], s.Lex[0].Name = "error", "error", "error" }},
		{"64 deep", func(s *api.Spec) { s.Lex[0].Expr = nest(api.MaxNest) }},
		{"4096 values", func(s *api.Spec) { s.Lex[0].Expr = wide(api.MaxPositions) }},
		{"4096 positions", func(s *api.Spec) { s.Lex[0].Expr = times(16, 16, wide(257)) }},
		{"1000 times", func(s *api.Spec) { s.Lex[0].Expr = times(1000, 1000, span(0, 255)) }},
		{"1000 times and more", func(s *api.Spec) { s.Lex[0].Expr = times(1000, -1, span(255, 255)) }},
		{"no times", func(s *api.Spec) { s.Lex[0].Expr = times(0, 0, span(0, 0)) }},
		{"the empty text", func(s *api.Spec) { s.Lex[0].Expr = seq() }},
		{"a start that is the last name", func(s *api.Spec) { s.Start = 1 }},
		{"a left that is the last name", func(s *api.Spec) { s.Productions[0].Left = 1 }},
		{"a symbol that is a trivia rule", func(s *api.Spec) { s.Productions[0].Right[0] = term(2) }},
		{"a symbol that is the last name", func(s *api.Spec) { s.Productions[0].Right[0] = name(1) }},
		{"no productions", func(s *api.Spec) { s.Productions = nil }},
		{"no rules", func(s *api.Spec) { s.Lex, s.Productions = []api.LexRule{}, []api.Production{makes(0, name(1))} }},
		{"trivia alone", func(s *api.Spec) { s.Lex[0].Trivia, s.Lex[1].Trivia = true, true }},
	} {
		s := base(t)
		c.do(&s)
		wantErr(t, c.what, s, api.OK)
		wantBack(t, c.what, s)
	}
	wantErr(t, "no names", api.Spec{}, api.ErrIndex)
	wantErr(t, "no names, and a start below", api.Spec{Start: -1}, api.ErrIndex)
}

// greatest is the spec with the most bytes in its pack.
func greatest() api.Spec {
	e := span(0, 255)
	for range 62 { // as many values of five bytes as can lie in one another
		e = times(1, 1, e)
	}
	parts := slices.Repeat([]api.Expr{e}, 65) // 65 times 63 values, and one around them
	right := slices.Repeat([]api.Sym{term(api.MaxLex - 1)}, api.MaxRight)
	return api.Spec{
		Lex:         slices.Repeat([]api.LexRule{{Name: long(api.MaxName), Expr: seq(parts...)}}, api.MaxLex),
		Names:       slices.Repeat([]string{long(api.MaxName)}, api.MaxNames),
		Start:       api.MaxNames - 1,
		Productions: slices.Repeat([]api.Production{makes(api.MaxNames-1, right...)}, api.MaxProductions),
	}
}

// TestGreatest: no spec has a pack that is too long.
func TestGreatest(t *testing.T) {
	s := greatest()
	wantErr(t, "the greatest", s, api.OK)
	wantBack(t, "the greatest", s)
	if n := len(packed(t, s)); n < 1<<20 || n > api.MaxPack {
		t.Errorf("P1801: %d bytes", n)
	}
}

// TestWildSpecs is P1801 and P1805 for many specs, with faults and without.
func TestWildSpecs(t *testing.T) {
	r := rand.New(rand.NewSource(1801))
	all := [][]fault{sizes()[:1], grammars(), rules(0), rules(0)}
	met := map[api.Errno]int{}
	for range 8000 {
		s := wild(r)
		wantBack(t, "wild", s)
		if len(s.Lex) == 0 || len(s.Productions) < 4 || len(s.Productions[0].Right) < 2 || len(s.Productions[1].Right) < 1 || len(s.Productions[2].Right) < 1 {
			continue // there is no room for the faults
		}
		for range 1 + r.Intn(3) {
			if list := all[r.Intn(len(all))]; wantError(s) != api.ErrLong {
				list[r.Intn(len(list))].do(&s)
			}
		}
		met[wantError(s)]++
		wantSpec(t, "wild, with faults", s)
	}
	for _, err := range []api.Errno{api.ErrLong, api.ErrIndex, api.ErrExpr, api.ErrNest, api.ErrPositions} {
		if met[err] < 3 {
			t.Errorf("too few specs: %v: %d", err, met[err])
		}
	}
}
