package states_test

import (
	"iter"
	"math"
	"slices"
	"strings"
	"testing"

	"graft/api"
	"graft/sets"
	"graft/spec"
	"graft/states"
)

func term(n int) api.Sym { return api.Sym{Kind: api.STerminal, N: n} }

func name(n int) api.Sym { return api.Sym{Kind: api.SName, N: n} }

func wrong() api.Sym { return api.Sym{Kind: api.SError} }

func makes(left int, right ...api.Sym) api.Production {
	return api.Production{Left: left, Right: right}
}

func row(l ...api.Sym) []api.Sym { return l }

// items are those of pairs of numbers.
func items(l ...int) []api.Item {
	var out []api.Item
	for i := 0; i < len(l); i += 2 {
		out = append(out, api.Item{Production: l[i], Dot: l[i+1]})
	}
	return out
}

// ten is the spec of the document's ten examples.
func ten(t *testing.T) api.Spec {
	t.Helper()
	s, f := spec.Parse("token num = /[0-9]+/; token plus = /\\+/; token semi = /;/; skip ws = / +/; start L; L = L S | ; S = E semi | error semi; E = E plus T | T; T = num;")
	if f != (api.Fault{}) {
		t.Fatal(f)
	}
	return s
}

func built(t *testing.T, s api.Spec) *states.Automaton {
	t.Helper()
	a, f := states.Build(s)
	if a == nil || f != (api.Fault{}) {
		t.Fatalf("P802: %+v of %+v", f, s)
	}
	return a
}

const tenPrinted = `0: s.0 | n0>1
1: s.1 0.1 | t0>2 e>3 n1>4 n2>5 n3>6
2: 6.1 |
3: 3.1 | t2>7
4: 0.2 |
5: 2.1 4.1 | t1>8 t2>9
6: 5.1 |
7: 3.2 |
8: 4.2 | t0>2 n3>10
9: 2.2 |
10: 4.3 |
`

func TestExamples(t *testing.T) {
	a := built(t, ten(t))
	if a.Len() != 11 {
		t.Errorf("P803: %d states", a.Len())
	}
	wantState(t, a, 0, items(-1, 0), items(0, 0, 1, 0))
	wantState(t, a, 1, items(-1, 1, 0, 1), items(2, 0, 3, 0, 4, 0, 5, 0, 6, 0))
	wantArcs(t, a, 0, map[api.Sym]int{name(0): 1})
	wantArcs(t, a, 1, map[api.Sym]int{term(0): 2, wrong(): 3, name(1): 4, name(2): 5, name(3): 6})
	wantRun(t, a, row(name(0), name(2), term(1)), a.Go(5, term(1)))
	wantRun(t, a, row(name(0), name(2), term(1)), 8)
	wantRun(t, a, row(term(0)), -1)
	wantRun(t, a, nil, 0)
	if p := a.Path(5); !slices.Equal(p, row(name(0), name(2))) {
		t.Errorf("P803: path %v", p)
	}
	if a.Print() != tenPrinted {
		t.Errorf("P805:\n%s", a.Print())
	}
	s := ten(t)
	s.Start = 9
	if a, f := states.Build(s); a != nil || f != (api.Fault{Err: api.ErrIndex, At: -1}) {
		t.Errorf("P802: %v %+v", a, f)
	}
}

// wantState asks for a kernel, and for the items behind it.
func wantState(t *testing.T, a *states.Automaton, n int, kernel, rest []api.Item) {
	t.Helper()
	if got := a.Kernel(n); !slices.Equal(got, kernel) {
		t.Errorf("P801: kernel of %d: %v, not %v", n, got, kernel)
	}
	if got := a.Items(n); !slices.Equal(got, slices.Concat(kernel, rest)) {
		t.Errorf("P801: items of %d: %v, not %v and %v", n, got, kernel, rest)
	}
}

// wantArcs asks what lies behind a state and each of many symbols, and no symbols.
func wantArcs(t *testing.T, a *states.Automaton, n int, want map[api.Sym]int) {
	t.Helper()
	for kind := -1; kind < 6; kind++ {
		for k := -2; k < 130; k++ {
			x := api.Sym{Kind: kind, N: k}
			to, ok := want[x]
			if !ok {
				to = -1
			}
			if got := a.Go(n, x); got != to {
				t.Errorf("P803: behind %d and %v: %d, not %d", n, x, got, to)
			}
		}
	}
}

func wantRun(t *testing.T, a *states.Automaton, l []api.Sym, want int) {
	t.Helper()
	if n := a.Run(l); n != want {
		t.Errorf("P804: %v: %d, not %d", l, n, want)
	}
}

// mixed has names and productions in no good order, trivia among the rules, a start that is not first and stands in right sides, and a production twice: S is 2, A 0, B 1; S -> b A | S error B c | A; A -> B b | error S b; B -> b, B -> b, B -> .
func mixed() api.Spec {
	return api.Spec{
		Lex:   []api.LexRule{{Name: "w", Trivia: true}, {Name: "b"}, {Name: "v", Trivia: true}, {Name: "c"}},
		Names: []string{"A", "B", "S"},
		Start: 2,
		Productions: []api.Production{
			makes(1, term(1)),                            // 0
			makes(2, term(1), name(0)),                   // 1
			makes(1, term(1)),                            // 2
			makes(0, name(1), term(1)),                   // 3
			makes(2, name(2), wrong(), name(1), term(3)), // 4
			makes(0, wrong(), name(2), term(1)),          // 5
			makes(1),                                     // 6
			makes(2, name(0)),                            // 7
		},
	}
}

func TestMixed(t *testing.T) {
	a := built(t, mixed())
	all := items(0, 0, 1, 0, 2, 0, 3, 0, 4, 0, 5, 0, 6, 0, 7, 0)
	wantState(t, a, 0, items(-1, 0), all)
	wantArcs(t, a, 0, map[api.Sym]int{term(1): 1, wrong(): 2, name(0): 3, name(1): 4, name(2): 5})
	wantState(t, a, 1, items(0, 1, 1, 1, 2, 1), items(0, 0, 2, 0, 3, 0, 5, 0, 6, 0))
	wantArcs(t, a, 1, map[api.Sym]int{term(1): 6, wrong(): 2, name(0): 7, name(1): 4})
	wantState(t, a, 2, items(5, 1), all)
	wantArcs(t, a, 2, map[api.Sym]int{term(1): 1, wrong(): 2, name(0): 3, name(1): 4, name(2): 8})
	wantState(t, a, 3, items(7, 1), nil)
	wantState(t, a, 4, items(3, 1), nil)
	wantState(t, a, 5, items(-1, 1, 4, 1), nil)
	wantArcs(t, a, 4, map[api.Sym]int{term(1): 9})
	wantArcs(t, a, 5, map[api.Sym]int{wrong(): 10})
	wantState(t, a, 6, items(0, 1, 2, 1), nil)
	wantState(t, a, 8, items(4, 1, 5, 2), nil)
	wantArcs(t, a, 8, map[api.Sym]int{term(1): 11, wrong(): 10})
	wantState(t, a, 10, items(4, 2), items(0, 0, 2, 0, 6, 0))
	const want = `0: s.0 | t1>1 e>2 n0>3 n1>4 n2>5
1: 0.1 1.1 2.1 | t1>6 e>2 n0>7 n1>4
2: 5.1 | t1>1 e>2 n0>3 n1>4 n2>8
3: 7.1 |
4: 3.1 | t1>9
5: s.1 4.1 | e>10
6: 0.1 2.1 |
7: 1.2 |
8: 4.1 5.2 | t1>11 e>10
9: 3.2 |
10: 4.2 | t1>6 n1>12
11: 5.3 |
12: 4.3 | t3>13
13: 4.4 |
`
	if a.Print() != want {
		t.Errorf("P805:\n%s", a.Print())
	}
}

// TestSmallest: specs that are hardly any.
func TestSmallest(t *testing.T) {
	for _, c := range []struct {
		s    api.Spec
		want string
	}{
		{api.Spec{Names: []string{""}, Productions: []api.Production{makes(0)}}, "0: s.0 | n0>1\n1: s.1 |\n"},
		{api.Spec{Names: []string{""}, Productions: []api.Production{makes(0, wrong())}}, "0: s.0 | e>1 n0>2\n1: 0.1 |\n2: s.1 |\n"},
		{api.Spec{Names: []string{""}, Productions: []api.Production{makes(0, name(0)), makes(0)}}, "0: s.0 | n0>1\n1: s.1 0.1 |\n"},
		{api.Spec{Names: []string{""}, Productions: []api.Production{makes(0), makes(0, name(0), name(0))}}, "0: s.0 | n0>1\n1: s.1 1.1 | n0>2\n2: 1.1 1.2 | n0>2\n"},
	} {
		if got := built(t, c.s).Print(); got != c.want {
			t.Errorf("P805: %q, not %q", got, c.want)
		}
	}
}

// turn is a change of the ten examples' spec, and the fault that it makes.
type turn struct {
	do   func(s *api.Spec)
	want api.Fault
}

func turns() []turn {
	return []turn{
		{func(s *api.Spec) { s.Lex = append(s.Lex, make([]api.LexRule, 61)...) }, api.Fault{Err: api.ErrLong}},
		{func(s *api.Spec) { s.Names = append(s.Names, make([]string, 125)...) }, api.Fault{Err: api.ErrLong}},
		{func(s *api.Spec) { s.Productions = append(s.Productions, make([]api.Production, 506)...) }, api.Fault{Err: api.ErrLong}},
		{func(s *api.Spec) { s.Productions[4].Right = make([]api.Sym, 17) }, api.Fault{Err: api.ErrLong}},
		{func(s *api.Spec) { s.Start = -1 }, api.Fault{Err: api.ErrIndex, At: -1}},
		{func(s *api.Spec) { s.Productions[3].Left = 4 }, api.Fault{Err: api.ErrIndex, At: 3}},
		{func(s *api.Spec) { s.Productions[4].Right[2].N = math.MaxInt }, api.Fault{Err: api.ErrIndex, At: 4}},
		{func(s *api.Spec) { s.Productions[6].Right[0].Kind = 0 }, api.Fault{Err: api.ErrIndex, At: 6}},
		{func(s *api.Spec) { s.Productions[6].Right[0].N = 3 }, api.Fault{Err: api.ErrTrivia, At: 6}},
		{func(s *api.Spec) { s.Names = append(s.Names, "M") }, api.Fault{Err: api.ErrUnreached, At: 4}},
		{func(s *api.Spec) { s.Lex[3].Trivia = false }, api.Fault{Err: api.ErrUnreached, At: 3}},
		{func(s *api.Spec) { s.Productions[5].Right = row(name(2)) }, api.Fault{Err: api.ErrUnproductive, At: 2}},
		{func(s *api.Spec) { s.Productions[6].Right = row(name(3), term(0)) }, api.Fault{Err: api.ErrUnproductive, At: 2}},
		{func(s *api.Spec) {
			for i := range 9 {
				s.Names = append(s.Names, "")
				s.Productions = append(s.Productions, makes(3+i, name(4+i), name(4+i)))
			}
			s.Productions = append(s.Productions, makes(12))
		}, api.Fault{Err: api.ErrFull, At: 2}},
	}
}

// TestFaults: Check's fault, and no automaton beside it.
func TestFaults(t *testing.T) {
	for i, c := range turns() {
		s := ten(t)
		c.do(&s)
		a, f := states.Build(s)
		if a != nil || f != c.want || f != sets.Check(s) {
			t.Errorf("P802: turn %d: %v %+v, not %+v", i, a, f, c.want)
		}
	}
	if a, f := states.Build(api.Spec{}); a != nil || f != (api.Fault{Err: api.ErrIndex, At: -1}) {
		t.Errorf("P802: of nothing: %v %+v", a, f)
	}
}

// long has as many states as asked for: 0, that behind S, and one for each place of right sides that begin with unlike terminals.
func long(count int) api.Spec {
	s := api.Spec{Names: []string{"S"}}
	for count -= 2; count > 0; count -= 16 {
		n := len(s.Lex)
		s.Lex = append(s.Lex, api.LexRule{})
		s.Productions = append(s.Productions, makes(0, slices.Repeat(row(term(n)), min(count, 16))...))
	}
	return s
}

func TestMostStates(t *testing.T) {
	for _, count := range []int{3, 18, 19, 1000, 1023, 1024} {
		a := built(t, long(count))
		if a.Len() != count || len(a.Kernel(count-1)) != 1 || len(a.Kernel(count)) != 0 {
			t.Errorf("P802: %d states, not %d", a.Len(), count)
		}
	}
	above := []api.Spec{long(1025), long(1026), deep()}
	for i, s := range above {
		if f := sets.Check(s); f != (api.Fault{}) {
			t.Fatal(f)
		}
		if a, f := states.Build(s); a != nil || f != (api.Fault{Err: api.ErrStates}) {
			t.Errorf("P802: above %d: %v %+v", i, a, f)
		}
	}
}

// deep is as great as a spec can be, with states far above the bound.
func deep() api.Spec {
	s := api.Spec{Lex: make([]api.LexRule, 64), Names: make([]string, 128)}
	for i := range 512 {
		p := makes(i % 128)
		for k := range 16 {
			p.Right = append(p.Right, term((i*(k+3)+i/64)%64))
		}
		if i < 127 {
			p.Right[i%16] = name(i + 1)
		}
		s.Productions = append(s.Productions, p)
	}
	return s
}

// TestFaultAheadOfStates: too many states are told behind what Check tells.
func TestFaultAheadOfStates(t *testing.T) {
	s := long(1026)
	s.Names = append(s.Names, "T")
	if a, f := states.Build(s); a != nil || f != (api.Fault{Err: api.ErrUnreached, At: 1}) {
		t.Errorf("P802: %v %+v", a, f)
	}
}

// TestGreatKernels: productions that are all alike stand in one kernel, each by itself, up to the last one's last place.
func TestGreatKernels(t *testing.T) {
	s := api.Spec{Lex: make([]api.LexRule, 1), Names: []string{"S"}}
	for range 512 {
		s.Productions = append(s.Productions, makes(0, slices.Repeat(row(term(0)), 16)...))
	}
	a := built(t, s)
	if a.Len() != 18 {
		t.Fatalf("P801: %d states", a.Len())
	}
	wantState(t, a, 2, items(-1, 1), nil)
	for d := 1; d <= 16; d++ {
		var want []api.Item
		for p := range 512 {
			want = append(want, api.Item{Production: p, Dot: d})
		}
		wantState(t, a, a.Run(slices.Repeat(row(term(0)), d)), want, nil)
	}
}

// none are numbers that are no state's of an automaton with so many.
func none(count int) []int {
	return []int{-1, -2, -count, count, count + 1, 1 << 16, -1 << 16, math.MinInt, math.MaxInt}
}

func TestNoState(t *testing.T) {
	for _, s := range []api.Spec{ten(t), mixed(), long(1024)} {
		a := built(t, s)
		for _, n := range none(a.Len()) {
			if len(a.Kernel(n)) > 0 || len(a.Items(n)) > 0 || len(a.Path(n)) > 0 {
				t.Errorf("P803: state %d: %v %v %v", n, a.Kernel(n), a.Items(n), a.Path(n))
			}
			if x, ok := a.Symbol(n); ok || x != (api.Sym{}) {
				t.Errorf("P803: symbol of %d: %v %v", n, x, ok)
			}
			for _, x := range row(term(0), term(1), wrong(), name(0), name(1), api.Sym{}) {
				if to := a.Go(n, x); to != -1 {
					t.Errorf("P803: behind %d and %v: %d", n, x, to)
				}
			}
		}
	}
}

// TestNoSymbol: what is no symbol leads nowhere, from no state; nor do trivia.
func TestNoSymbol(t *testing.T) {
	odd := row(api.Sym{}, api.Sym{Kind: 4}, api.Sym{Kind: -1}, api.Sym{Kind: api.SError, N: 1}, api.Sym{Kind: api.SError, N: -1},
		term(-1), term(4), term(64), term(math.MinInt), term(math.MaxInt), name(-1), name(4), name(128), name(math.MinInt), name(math.MaxInt),
		api.Sym{Kind: math.MaxInt, N: math.MaxInt}, api.Sym{Kind: math.MinInt})
	for _, s := range []api.Spec{ten(t), mixed()} {
		bad := slices.Clone(odd)
		for i, rule := range s.Lex {
			if rule.Trivia {
				bad = append(bad, term(i))
			}
		}
		a := built(t, s)
		for _, x := range bad {
			for n := range a.Len() {
				if to := a.Go(n, x); to != -1 {
					t.Errorf("P803: behind %d and %v: %d", n, x, to)
				}
				path := a.Path(n)
				wantRun(t, a, append(path, x), -1)
				wantRun(t, a, append(row(x), path...), -1)
			}
		}
	}
}

func TestSymbols(t *testing.T) {
	a := built(t, ten(t))
	if x, ok := a.Symbol(0); ok || x != (api.Sym{}) {
		t.Errorf("P803: %v %v", x, ok)
	}
	for n, want := range row(name(0), term(0), wrong(), name(1), name(2), name(3), term(2), term(1), term(2), name(3)) {
		if x, ok := a.Symbol(n + 1); x != want || !ok {
			t.Errorf("P803: symbol of %d: %v %v, not %v", n+1, x, ok, want)
		}
	}
}

// TestPaths: most states lie behind one row alone, which is their path; those within A lie behind many, and the shortest is told.
func TestPaths(t *testing.T) {
	s := api.Spec{
		Lex:   make([]api.LexRule, 4),
		Names: []string{"S", "A"},
		Productions: []api.Production{
			makes(0, term(3), term(0), name(1)),
			makes(0, term(1), term(2), name(1)),
			makes(0, wrong(), term(0), name(1)),
			makes(0, name(1), name(1), name(1)),
			makes(1, term(0), term(0), term(0), term(0)),
		},
	}
	a := built(t, s)
	for _, c := range [][]api.Sym{
		nil,
		row(term(0)), row(term(1)), row(term(3)), row(wrong()), row(name(0)), row(name(1)),
		row(term(0), term(0)), row(term(1), term(2)), row(term(3), term(0)), row(wrong(), term(0)), row(name(1), name(1)),
		row(term(0), term(0), term(0)), row(term(1), term(2), name(1)), row(term(3), term(0), name(1)),
		row(wrong(), term(0), name(1)), row(name(1), name(1), name(1)), row(term(0), term(0), term(0), term(0)),
	} {
		n := a.Run(c)
		if n < 0 || !slices.Equal(a.Path(n), c) {
			t.Errorf("P803: %v leads to %d, whose path is %v", c, n, a.Path(n))
		}
	}
	for _, c := range []struct{ long, path []api.Sym }{
		{row(term(3), term(0), term(0)), row(term(0))},
		{row(wrong(), term(0), term(0), term(0)), row(term(0), term(0))},
		{row(name(1), name(1), term(0), term(0), term(0)), row(term(0), term(0), term(0))},
	} {
		if p := a.Path(a.Run(c.long)); !slices.Equal(p, c.path) {
			t.Errorf("P803: %v: %v, not %v", c.long, p, c.path)
		}
	}
}

// TestLeastPath: the state behind x lies behind rows of two symbols whose first ones are a terminal, error and a name, and is told by the first of them that there is.
func TestLeastPath(t *testing.T) {
	ahead := row(term(1), term(2), wrong(), name(1), name(2))
	for from := range ahead {
		s := api.Spec{Lex: make([]api.LexRule, 4), Names: []string{"S", "A", "B", "X"}}
		s.Productions = append(s.Productions, makes(3, term(3), term(0)), makes(1, term(0), term(0)), makes(2, term(0), term(0), term(0)),
			makes(0, term(0), term(0), term(0), term(0), term(1), term(2), name(1), name(2)))
		for _, x := range slices.Backward(ahead[from:]) {
			s.Productions = append(s.Productions, makes(0, x, name(3)))
		}
		a := built(t, s)
		for _, x := range ahead[from:] {
			if n := a.Run(row(x, term(3))); !slices.Equal(a.Path(n), row(ahead[from], term(3))) {
				t.Errorf("P803: %v", a.Path(n))
			}
		}
	}
}

func TestRuns(t *testing.T) {
	a := built(t, ten(t))
	for _, c := range []struct {
		l    []api.Sym
		want int
	}{
		{row(), 0},
		{row(name(0)), 1},
		{row(name(0), term(0)), 2},
		{row(name(0), wrong(), term(2)), 7},
		{row(name(0), name(2), term(1), term(0)), 2},
		{row(name(0), name(2), term(1), name(3)), 10},
		{row(name(0), name(2), term(1), name(3), term(1)), -1},
		{row(name(0), name(0)), -1},
		{row(name(0), name(0), name(0)), -1},
		{row(term(0), name(0)), -1},
		{row(wrong()), -1},
		{row(name(1)), -1},
		{row(name(0), term(3)), -1},
		{row(name(0), name(1), term(0)), -1},
		{row(name(9), name(0)), -1},
	} {
		wantRun(t, a, c.l, c.want)
	}
	if n := built(t, api.Spec{Lex: make([]api.LexRule, 1), Names: []string{"S"}, Productions: []api.Production{makes(0, term(0), name(0)), makes(0)}}).Run(slices.Repeat(row(term(0)), 100000)); n != 1 {
		t.Errorf("P804: a long row leads to %d", n)
	}
}

// wantAll goes over an iterator, to its end or till so many have come.
func wantAll(t *testing.T, a *states.Automaton, all iter.Seq2[int, []api.Item], most int) {
	t.Helper()
	count := 0
	for n, kernel := range all {
		if n != count || !slices.Equal(kernel, a.Kernel(n)) {
			t.Errorf("P805: %d: %v behind %d", n, kernel, count)
		}
		if count++; count == most {
			break
		}
	}
	if count != min(most, a.Len()) {
		t.Errorf("P805: %d states came", count)
	}
}

func TestAll(t *testing.T) {
	a := built(t, ten(t))
	all := a.All()
	for _, most := range []int{99, 1, 5, 10, 11, 12, 99} {
		wantAll(t, a, all, most)
		wantAll(t, a, a.All(), most)
	}
	var met []int
	for n := range all {
		for m := range all {
			if m > n {
				break
			}
			met = append(met, m)
		}
		wantAll(t, a, all, n+1)
	}
	if len(met) != 66 || met[65] != 10 {
		t.Errorf("P805: within itself: %v", met)
	}
	wantAll(t, built(t, long(1024)), built(t, long(1024)).All(), 2000)
}

// TestPrintLines: what is printed is what the other calls tell.
func TestPrintLines(t *testing.T) {
	for _, s := range []api.Spec{ten(t), mixed(), long(1024)} {
		a := built(t, s)
		text := a.Print()
		if text != (model{s}).print() {
			t.Errorf("P805:\n%s", text)
		}
		if strings.Count(text, "\n") != a.Len() || !strings.HasSuffix(text, "\n") || strings.Contains(text, " \n") {
			t.Errorf("P805: %q", text)
		}
	}
}
