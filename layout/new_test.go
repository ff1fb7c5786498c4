package layout_test

import (
	"math"
	"slices"
	"strings"
	"testing"

	"graft/api"
	"graft/layout"
	"graft/scan"
)

// wantNew holds the fault with which a layout is refused, or that none is.
func wantNew(t *testing.T, what string, s api.Spec, r api.Rules, want api.Fault) {
	t.Helper()
	if l, f := layout.New(s, r); f != want || (l == nil) != (want.Err != api.OK) {
		t.Errorf("P1701: %s: %s: %+v, want %+v", what, short(r), f, want)
	}
}

// long, odd and listed are P1701's own faults.
func long() api.Fault         { return api.Fault{Err: api.ErrLong, At: -1} }
func odd() api.Fault          { return api.Fault{Err: api.ErrLayout, At: -1} }
func listed(at int) api.Fault { return api.Fault{Err: api.ErrLayout, At: at} }

// wordsOf are Blank, Line, Indent.
func wordsOf(r *api.Rules) []*string { return []*string{&r.Blank, &r.Line, &r.Indent} }

// TestNewWords is P1701 of Blank, Line and Indent: how long, and of which bytes.
func TestNewWords(t *testing.T) {
	s := readSpec(t, ten)
	for i := range 3 {
		try := func(what, word string, want api.Fault) {
			t.Helper()
			r := usual(s)
			*wordsOf(&r)[i] = word
			wantNew(t, what, s, r, want)
		}
		try("no bytes", "", api.Fault{})
		try("MaxName bytes", strings.Repeat("\t\n\r ", api.MaxName/4), api.Fault{})
		try("one more", strings.Repeat(" ", api.MaxName+1), long())
		try("one more, of other bytes", strings.Repeat("x", api.MaxName+1), long())
		try("MaxName other bytes", strings.Repeat("x", api.MaxName), odd())
		try("very many", strings.Repeat(" ", 1<<20), long())
		for b := range 256 {
			word, want := string([]byte{byte(b)}), odd()
			if b == 9 || b == 10 || b == 13 || b == 32 {
				want = api.Fault{}
			}
			try("each byte", word, want)
			try("each byte, the last of MaxName", strings.Repeat(" ", api.MaxName-1)+word, want)
			try("each byte, the first of MaxName", word+strings.Repeat("\n", api.MaxName-1), want)
			try("each byte, between others", "\t\r"+word+"\n ", want)
		}
	}
}

// TestNewGaps is P1701 of Gaps: how many lists, how long each, and of which numbers.
func TestNewGaps(t *testing.T) {
	s := readSpec(t, ten)
	count := len(s.Productions)
	try := func(what string, change func(r *api.Rules), want api.Fault) {
		t.Helper()
		r := usual(s)
		change(&r)
		wantNew(t, what, s, r, want)
	}
	try("right", func(r *api.Rules) {}, api.Fault{})
	try("none", func(r *api.Rules) { r.Gaps = nil }, odd())
	try("none, empty", func(r *api.Rules) { r.Gaps = [][]int{} }, odd())
	try("too few, the last", func(r *api.Rules) { r.Gaps = r.Gaps[:count-1] }, odd())
	try("too few, the first", func(r *api.Rules) { r.Gaps = r.Gaps[1:] }, odd())
	try("too many, empty", func(r *api.Rules) { r.Gaps = append(r.Gaps, nil) }, odd())
	try("too many", func(r *api.Rules) { r.Gaps = append(r.Gaps, []int{1}) }, odd())
	for i, p := range s.Productions {
		try("a list with a number too few", func(r *api.Rules) { r.Gaps[i] = r.Gaps[i][1:] }, listed(i))
		try("a list with one too many", func(r *api.Rules) { r.Gaps[i] = append(r.Gaps[i], api.GNone) }, listed(i))
		try("no numbers", func(r *api.Rules) { r.Gaps[i] = nil }, listed(i))
		for at := range len(p.Right) + 1 {
			for kind := api.GNone; kind <= api.GOut; kind++ {
				try("each kind", func(r *api.Rules) { r.Gaps[i][at] = kind }, api.Fault{})
			}
			for _, kind := range []int{0, 6, 7, -1, -5, math.MaxInt, math.MinInt, 1 << 32, 1<<32 + 1} {
				try("a number that is none", func(r *api.Rules) { r.Gaps[i][at] = kind }, listed(i))
			}
		}
	}
}

// flaw is a fault of a spec or of rules, in the order in which they are told.
type flaw struct {
	what  string
	order int // those of equal order are one fault
	want  api.Fault
	do    func(s *api.Spec, r *api.Rules)
}

// flaws are all kinds: of the lexical rules, of the words, of the gaps.
func flaws() (out []flaw) {
	add := func(what string, order int, want api.Fault, do func(s *api.Spec, r *api.Rules)) {
		out = append(out, flaw{what, order, want, do})
	}
	add("65 rules", 0, api.Fault{Err: api.ErrLong}, func(s *api.Spec, r *api.Rules) {
		s.Lex = slices.Repeat(s.Lex, 17)[:65]
	})
	add("no pattern", 1, api.Fault{Err: api.ErrExpr}, func(s *api.Spec, r *api.Rules) { s.Lex[0].Expr = api.Expr{} })
	add("a pattern of the empty text", 2, api.Fault{Err: api.ErrEmpty, At: 1}, func(s *api.Spec, r *api.Rules) { s.Lex[1].Expr = api.Expr{Kind: api.XSeq} })
	add("a pattern too deep", 3, api.Fault{Err: api.ErrNest, At: 3}, func(s *api.Spec, r *api.Rules) { s.Lex[3].Expr = deepExpr() })
	for i := range 3 {
		add("a word too long", 4, long(), func(s *api.Spec, r *api.Rules) { *wordsOf(r)[i] += strings.Repeat(" ", api.MaxName) })
		add("a word with another byte", 5, odd(), func(s *api.Spec, r *api.Rules) { *wordsOf(r)[i] += "x" })
	}
	add("too few lists", 5, odd(), func(s *api.Spec, r *api.Rules) { r.Gaps = r.Gaps[:len(r.Gaps)-1] })
	for _, at := range []int{0, 2, 5} {
		add("a list too short", 6+at, listed(at), func(s *api.Spec, r *api.Rules) { r.Gaps[at] = r.Gaps[at][:len(r.Gaps[at])-1] })
		add("a number that is none", 6+at, listed(at), func(s *api.Spec, r *api.Rules) { r.Gaps[at][0] = 0 })
	}
	return out
}

// deepExpr is a pattern that is too deep, and no pattern besides.
func deepExpr() api.Expr {
	e := api.Expr{Kind: 99}
	for range api.MaxNest + 1 {
		e = api.Expr{Kind: api.XRepeat, Min: 1, Max: 1, List: []api.Expr{e}}
	}
	return e
}

// TestFlaws is P1701: each fault alone, and each two of them: the first in order is told.
func TestFlaws(t *testing.T) {
	fresh := func() (api.Spec, api.Rules) {
		s := readSpec(t, ten)
		return s, usual(s)
	}
	for i, a := range flaws() {
		s, r := fresh()
		a.do(&s, &r)
		wantNew(t, a.what, s, r, a.want)
		for _, b := range flaws()[:i] {
			for _, pair := range [][2]flaw{{a, b}, {b, a}} {
				s, r := fresh()
				pair[0].do(&s, &r)
				pair[1].do(&s, &r)
				want := a.want
				if b.order < a.order {
					want = b.want
				}
				wantNew(t, pair[0].what+", "+pair[1].what, s, r, want)
			}
		}
	}
}

// TestNewLex is P1701: the fault of the lexical rules is scan.New's.
func TestNewLex(t *testing.T) {
	many := api.Expr{Kind: api.XSeq}
	for range api.MaxPositions + 1 {
		many.List = append(many.List, api.Expr{Kind: api.XRange, To: 255})
	}
	any, a := api.Expr{Kind: api.XRange, To: 255}, api.Expr{Kind: api.XRange, From: 97, To: 97}
	sets := api.Expr{Kind: api.XSeq, List: []api.Expr{{Kind: api.XRepeat, Max: -1, List: []api.Expr{any}}, a, {Kind: api.XRepeat, Min: 14, Max: 14, List: []api.Expr{any}}}}
	for _, e := range []api.Expr{{}, many, deepExpr(), sets, {Kind: api.XSeq}, {Kind: api.XRange, From: 5, To: 4}, {Kind: api.XRepeat, Max: 1, List: []api.Expr{a}}, a} {
		for at := range 3 {
			s := api.Spec{Lex: []api.LexRule{{Expr: a}, {Expr: any, Trivia: true}, {Expr: a}}}
			s.Lex[at].Expr = e
			_, want := scan.New(s.Lex)
			wantNew(t, "lexical rules", s, api.Rules{}, want)
			if want.Err != api.OK {
				wantNew(t, "lexical rules, and others", s, api.Rules{Blank: strings.Repeat("x", 65), Gaps: [][]int{{9}}}, want)
			}
		}
	}
}

// TestOddSpecs is P1701: of a spec nothing counts but its lexical rules and how long the right sides are.
func TestOddSpecs(t *testing.T) {
	wantNew(t, "nothing", api.Spec{}, api.Rules{}, api.Fault{})
	wantNew(t, "nothing, with a list", api.Spec{}, api.Rules{Gaps: [][]int{{1}}}, odd())
	blank := api.Spec{Productions: []api.Production{{Left: -7}, {Left: 1 << 40, Right: []api.Sym{}}}}
	wantNew(t, "right sides of no symbols", blank, api.Rules{Gaps: [][]int{{1}, {5}}}, api.Fault{})
	wantNew(t, "right sides of no symbols, no numbers", blank, api.Rules{Gaps: [][]int{{1}, {}}}, listed(1))
	wantNew(t, "right sides of no symbols, two numbers", blank, api.Rules{Gaps: [][]int{{1, 1}, {1}}}, listed(0))
	s := readSpec(t, ten)
	s.Names, s.Start = []string{"", ""}, -1
	for range 2 * api.MaxProductions {
		s.Productions = append(s.Productions, api.Production{Left: -3, Right: slices.Repeat([]api.Sym{{Kind: 77, N: -9}}, 5*api.MaxRight)})
	}
	s.Lex[0].Name, s.Lex[1].Name = strings.Repeat("\x00", 1000), ""
	r := filled(s, api.GBlank)
	wantNew(t, "a spec that no other package takes", s, r, api.Fault{})
	r.Gaps[1000][40] = 6
	wantNew(t, "a spec that no other package takes", s, r, listed(1000))
	r = filled(s, api.GBlank)
	e := compiled(t, ten)
	v := opened(t, e, "1+2;")
	wantPrinted(t, "a spec that no other package takes", laid(t, s, r), v, "1 + 2 ;")
	wantPrinted(t, "no productions", laid(t, api.Spec{Lex: s.Lex}, api.Rules{Blank: " "}), v, "1+2;")
}
