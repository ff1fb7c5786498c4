package sets_test

import (
	"math"
	"slices"
	"testing"

	"graft/api"
	"graft/sets"
)

// broad is S -> A B c | error | C D; A -> a A | ; B -> b | A; C -> d C | d; D -> error D d | .
func broad() api.Spec {
	s := example()
	s.Lex = append(s.Lex, api.LexRule{Name: "d"})
	s.Names = append(s.Names, "C", "D")
	s.Productions = append(s.Productions,
		makes(0, name(3), name(4)),
		makes(3, term(4), name(3)),
		makes(3, term(4)),
		makes(4, wrong(), name(4), term(4)),
		makes(4),
	)
	return s
}

// turn is a change of a spec in order, and the fault that it makes.
type turn struct {
	what string
	do   func(s *api.Spec)
	err  api.Errno
	at   int
}

// turns stand in the order in which their faults are asked for; each touches what no other one does.
func turns() []turn {
	return []turn{
		{"65 rules", func(s *api.Spec) { s.Lex = append(s.Lex, slices.Repeat([]api.LexRule{{Trivia: true}}, 60)...) }, api.ErrLong, 0},
		{"129 names", func(s *api.Spec) { s.Names = append(s.Names, make([]string, 124)...) }, api.ErrLong, 0},
		{"513 productions", func(s *api.Spec) { s.Productions = append(s.Productions, make([]api.Production, 502)...) }, api.ErrLong, 0},
		{"17 symbols", func(s *api.Spec) { s.Productions[5].Right = make([]api.Sym, 17) }, api.ErrLong, 0},
		{"no start", func(s *api.Spec) { s.Start = 200 }, api.ErrIndex, -1},
		{"no left", func(s *api.Spec) { s.Productions[1].Left = -1 }, api.ErrIndex, 1},
		{"no rule", func(s *api.Spec) { s.Productions[2].Right[0].N = 70 }, api.ErrIndex, 2},
		{"trivia", func(s *api.Spec) { s.Productions[4].Right[0].N = 2 }, api.ErrTrivia, 4},
		{"no kind", func(s *api.Spec) { s.Productions[7].Right[0].Kind = 0 }, api.ErrIndex, 7},
		{"no error", func(s *api.Spec) { s.Productions[9].Right[0].N = 1 }, api.ErrIndex, 9},
		{"a name unreached", func(s *api.Spec) { s.Productions[6].Right = []api.Sym{name(4)} }, api.ErrUnreached, 3},
		{"a rule unreached", func(s *api.Spec) { s.Lex = append(s.Lex, api.LexRule{}) }, api.ErrUnreached, 5},
		{"no sentence", func(s *api.Spec) { s.Productions[8].Right = []api.Sym{term(4), name(3), term(4)} }, api.ErrUnproductive, 3},
		{"great empty trees", func(s *api.Spec) {
			first := len(s.Names)
			s.Productions = append(s.Productions, makes(4, name(first)))
			for i := range 9 {
				s.Names = append(s.Names, "E")
				p := makes(first+i, name(first+i+1), name(first+i+1))
				if i == 8 {
					p = makes(first + i)
				}
				s.Productions = append(s.Productions, p)
			}
		}, api.ErrFull, 5},
	}
}

func TestTurns(t *testing.T) {
	if f := sets.Check(broad()); f != (api.Fault{}) {
		t.Fatalf("P701: %+v", f)
	}
	for _, c := range turns() {
		s := broad()
		c.do(&s)
		wantFault(t, c.what, s, api.Fault{Err: c.err, At: c.at})
	}
}

// TestOrder: of two faults the first of the list is told, in whatever order they came in.
func TestOrder(t *testing.T) {
	all := turns()
	for i, first := range all {
		for _, second := range all[i+1:] {
			s := broad()
			second.do(&s)
			first.do(&s)
			want := api.Fault{Err: first.err, At: first.at}
			if first.what == "a rule unreached" || first.what == "great empty trees" {
				continue // these come behind what the other one put there
			}
			wantFault(t, first.what+" and "+second.what, s, want)
			s = broad()
			first.do(&s)
			second.do(&s)
			wantFault(t, first.what+" and then "+second.what, s, want)
		}
	}
}

// TestRankOfUnreachedRule: behind unreached names, ahead of names without sentences and of great trees.
func TestRankOfUnreachedRule(t *testing.T) {
	for _, c := range turns()[12:] {
		s := broad()
		s.Lex = append(s.Lex, api.LexRule{})
		c.do(&s)
		wantFault(t, c.what, s, api.Fault{Err: api.ErrUnreached, At: 5})
	}
	s := broad()
	s.Lex = slices.Insert(s.Lex, 0, api.LexRule{})
	s.Names = append(s.Names, "E")
	for _, p := range s.Productions {
		for i, x := range p.Right {
			if x.Kind == api.STerminal {
				p.Right[i].N++
			}
		}
	}
	wantFault(t, "rule 0 and name 5", s, api.Fault{Err: api.ErrUnreached, At: 5})
	s.Names = s.Names[:5]
	wantFault(t, "rule 0", s, api.Fault{Err: api.ErrUnreached, At: 0})
	s.Lex[0].Trivia = true
	wantFine(t, "a trivia rule need not be reached", s)
}

func wantFine(t *testing.T, what string, s api.Spec) {
	t.Helper()
	if f := sets.Check(s); f != (api.Fault{}) {
		t.Errorf("P701: %s: %+v", what, f)
	}
}

// TestFirstOfSeveral: of faults of one kind the first is told, and its place.
func TestFirstOfSeveral(t *testing.T) {
	for _, c := range []struct {
		what string
		do   func(s *api.Spec)
		err  api.Errno
		at   int
	}{
		{"left ahead of right", func(s *api.Spec) { s.Productions[4] = makes(5, term(2)) }, api.ErrIndex, 4},
		{"trivia ahead", func(s *api.Spec) { s.Productions[4].Right = []api.Sym{term(1), term(2), term(9)} }, api.ErrTrivia, 4},
		{"index ahead", func(s *api.Spec) { s.Productions[4].Right = []api.Sym{term(1), term(9), term(2)} }, api.ErrIndex, 4},
		{"trivia in the production ahead", func(s *api.Spec) { s.Productions[3].Right, s.Productions[4].Left = []api.Sym{term(2)}, 9 }, api.ErrTrivia, 3},
		{"two productions", func(s *api.Spec) { s.Productions[8].Left, s.Productions[6].Left = 9, 9 }, api.ErrIndex, 6},
		{"two names unreached", func(s *api.Spec) { s.Productions[0].Right, s.Productions[6].Right = nil, nil }, api.ErrUnreached, 1},
		{"names reached by unreached ones", func(s *api.Spec) {
			s.Names = append(s.Names, "E", "F")
			s.Productions = append(s.Productions, makes(6, name(5)), makes(5, name(6)))
		}, api.ErrUnreached, 5},
		{"a rule in an unreached name alone", func(s *api.Spec) {
			s.Lex, s.Names = append(s.Lex, api.LexRule{}), append(s.Names, "E")
			s.Productions = append(s.Productions, makes(5, term(5)))
		}, api.ErrUnreached, 5},
		{"two rules unreached", func(s *api.Spec) { s.Lex = append(s.Lex, api.LexRule{Trivia: true}, api.LexRule{}, api.LexRule{}) }, api.ErrUnreached, 6},
		{"two without sentences", func(s *api.Spec) {
			s.Productions[8].Right, s.Productions[10].Right = []api.Sym{name(4)}, []api.Sym{name(3)}
		}, api.ErrUnproductive, 3},
		{"a name without productions", func(s *api.Spec) {
			s.Names = append(s.Names, "E")
			s.Productions = append(s.Productions, makes(0, name(5)))
		}, api.ErrUnproductive, 5},
	} {
		s := broad()
		c.do(&s)
		wantFault(t, c.what, s, api.Fault{Err: c.err, At: c.at})
	}
}

func TestExtremes(t *testing.T) {
	wantFault(t, "nothing", api.Spec{}, api.Fault{Err: api.ErrIndex, At: -1})
	wantFault(t, "no productions", api.Spec{Names: []string{"S"}}, api.Fault{Err: api.ErrUnproductive})
	wantFine(t, "nothing alone", api.Spec{Names: []string{"S"}, Productions: []api.Production{makes(0)}})
	wantFine(t, "error alone", api.Spec{Names: []string{"S"}, Productions: []api.Production{makes(0, wrong())}})
	for _, n := range []int{math.MinInt, math.MinInt32, -64, -1, 5, 64, 128, math.MaxInt32, math.MaxInt} {
		s := broad()
		s.Start = n
		wantFault(t, "start", s, api.Fault{Err: api.ErrIndex, At: -1})
		s = broad()
		s.Productions[2].Left = n
		wantFault(t, "left", s, api.Fault{Err: api.ErrIndex, At: 2})
		for _, x := range []api.Sym{{Kind: n}, {Kind: n, N: n}, term(n), name(n), {Kind: api.SError, N: n}} {
			s = broad()
			s.Productions[2].Right[1] = x
			wantFault(t, "a symbol", s, api.Fault{Err: api.ErrIndex, At: 2})
		}
	}
}

// widest is a spec in order as great as can be: 64 rules, 128 names, 512 productions, 16 symbols.
func widest() api.Spec {
	s := api.Spec{Lex: make([]api.LexRule, 64), Names: make([]string, 128), Start: 127}
	for i := range 512 {
		right := make([]api.Sym, 16)
		for k := range right {
			right[k] = term((i + k) % 64)
		}
		if i < 127 {
			right[0] = name(i)
		}
		s.Productions = append(s.Productions, makes((i+1)%128, right...))
	}
	return s
}

// TestWidest: at the limits all is well, and names and terminals behind the 64th are told too.
func TestWidest(t *testing.T) {
	s := widest()
	got := tell(t, s)
	for i := range s.Names {
		if len(got.yields[i]) != 16 || got.null[i] {
			t.Errorf("P702, P706: name %d: %v %v", i, got.null[i], got.yields[i])
		}
	}
	s.Productions[126].Right[15], s.Productions[511].Right = wrong(), nil
	got = tell(t, s)
	if !got.null[0] || got.null[127] {
		t.Errorf("P702: %v", got.null)
	}
	if !slices.Equal(got.follow[127], []int{65}) || !slices.Equal(got.follow[126], []int{63}) {
		t.Errorf("P704: %v, %v", got.follow[127], got.follow[126])
	}
	wantHeads(t, s, []api.Sym{name(0)}, []int{65, 64, 63}, append(slices.Clone(got.first[0]), 64, 65)...)
	wantHeads(t, s, []api.Sym{wrong()}, nil, 64)
	wantHeadsFault(t, s, nil, []int{65, 66}, api.ErrTerminal, 1)
}

func TestAboveLimits(t *testing.T) {
	long := api.Fault{Err: api.ErrLong}
	s := widest()
	s.Lex = append(s.Lex, api.LexRule{Trivia: true})
	wantFault(t, "65 rules", s, long)
	s = widest()
	s.Names = append(s.Names, "S")
	wantFault(t, "129 names", s, long)
	s = widest()
	s.Productions = append(s.Productions, s.Productions[0])
	wantFault(t, "513 productions", s, long)
	for _, i := range []int{0, 100, 511} {
		s = widest()
		s.Productions[i].Right = append(s.Productions[i].Right, term(0))
		wantFault(t, "17 symbols", s, long)
	}
}

// hollow has names A, B, C with empty trees of 1 + 15 of B's (and of extra C's), 17 and 1 nodes; A has more by more extra ones.
func hollow(extra int) api.Spec {
	right := slices.Repeat([]api.Sym{name(1)}, 15)
	right = append(right, slices.Repeat([]api.Sym{name(2)}, extra)...)
	return api.Spec{
		Names:       []string{"A", "B", "C"},
		Productions: []api.Production{makes(0, right...), makes(1, slices.Repeat([]api.Sym{name(2)}, 16)...), makes(2)},
	}
}

func TestEmptyTrees(t *testing.T) {
	wantFine(t, "256 nodes", hollow(0))
	wantFault(t, "257 nodes", hollow(1), api.Fault{Err: api.ErrFull})
	s := hollow(1)
	s.Productions = append(s.Productions, makes(0, name(1), name(2)))
	wantFine(t, "a smaller tree too", s)
	s = hollow(1)
	s.Productions = append(s.Productions, makes(0, wrong()))
	wantFault(t, "a sentence beside the great tree", s, api.Fault{Err: api.ErrFull})
	s = hollow(1)
	s.Lex = make([]api.LexRule, 3)
	s.Productions = append(s.Productions, makes(0, term(2)), makes(0, term(0), term(1)))
	wantFault(t, "rules with the places of small names", s, api.Fault{Err: api.ErrFull})
	s = hollow(1)
	s.Productions[0].Right[0] = wrong()
	wantFine(t, "great, but not empty", s)
	s = hollow(1)
	s.Names, s.Start = append(s.Names, "D"), 3
	s.Productions = append(s.Productions, makes(3, name(0)), makes(3))
	wantFault(t, "its part is too great, it is not", s, api.Fault{Err: api.ErrFull})
	s.Productions[4].Right = []api.Sym{wrong()}
	wantFault(t, "both too great: the first", s, api.Fault{Err: api.ErrFull})
	s = hollow(1)
	s.Names, s.Start = append(s.Names, "D"), 3
	s.Productions[0] = makes(3, s.Productions[0].Right...)
	s.Productions = append(s.Productions, makes(3, name(0)), makes(0, wrong()))
	wantFault(t, "the last one is too great", s, api.Fault{Err: api.ErrFull, At: 3})
	wantFault(t, "far too great", doubling(128, nil, []api.Sym{term(0)}), api.Fault{Err: api.ErrFull})
	wantFine(t, "255 nodes", doubling(8, nil, []api.Sym{term(0)}))
	wantFault(t, "511 nodes", doubling(9, nil, []api.Sym{term(0)}), api.Fault{Err: api.ErrFull})
}

// sixteens has names A, B, C with shortest sentences of 4096, 256 and 16 terminals, and a start of 4096 and extra ones.
func sixteens(extra int) api.Spec {
	s := api.Spec{Lex: make([]api.LexRule, 1), Names: make([]string, 4), Start: 3}
	s.Productions = []api.Production{
		makes(0, slices.Repeat([]api.Sym{name(1)}, 16)...),
		makes(1, slices.Repeat([]api.Sym{name(2)}, 16)...),
		makes(2, slices.Repeat([]api.Sym{term(0)}, 16)...),
		makes(3, append(slices.Repeat([]api.Sym{wrong()}, extra), name(0))...),
	}
	return s
}

func TestLongYields(t *testing.T) {
	got := tell(t, sixteens(0))
	if got.full != (api.Fault{}) || len(got.yields) != 4 || !slices.Equal(got.yields[3], make([]int, 4096)) {
		t.Errorf("P706: 4096 terminals: %+v", got.full)
	}
	s := sixteens(1)
	if got := tell(t, s); got.full != (api.Fault{Err: api.ErrFull, At: 3}) || got.yields != nil {
		t.Errorf("P706: 4097 terminals: %+v", got.full)
	}
	s.Productions = append(s.Productions, makes(3, wrong(), name(1)))
	if got := tell(t, s); got.full != (api.Fault{}) || len(got.yields) != 4 || len(got.yields[3]) != 257 || got.yields[3][0] != 1 {
		t.Errorf("P706: a shorter one too: %+v", got.full)
	}
	if got := tell(t, doubling(128, []api.Sym{term(0)})); got.full != (api.Fault{Err: api.ErrFull}) || got.yields != nil {
		t.Errorf("P706: far too long: %+v", got.full)
	}
	s = sixteens(16 - 1)
	s.Names[3], s.Productions[0].Left, s.Productions[3] = "S", 3, makes(0, wrong())
	s.Productions = append(s.Productions, makes(3, name(0), name(0)))
	if got := tell(t, s); got.full != (api.Fault{}) || !slices.Equal(got.yields[3], []int{1, 1}) {
		t.Errorf("P706: %+v %v", got.full, got.yields)
	}
}
