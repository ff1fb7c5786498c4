package table_test

import (
	"fmt"
	"math"
	"reflect"
	"slices"
	"strings"
	"testing"

	"graft/api"
	"graft/sets"
	"graft/spec"
	"graft/states"
	"graft/table"
)

func term(n int) api.Sym { return api.Sym{Kind: api.STerminal, N: n} }

func name(n int) api.Sym { return api.Sym{Kind: api.SName, N: n} }

func wrong() api.Sym { return api.Sym{Kind: api.SError} }

func makes(left int, right ...api.Sym) api.Production {
	return api.Production{Left: left, Right: right}
}

// rules are so many, none of them trivia.
func rules(n int) []api.LexRule { return make([]api.LexRule, n) }

// names are so many.
func names(n int) []string { return make([]string, n) }

func read(t *testing.T, text string) api.Spec {
	t.Helper()
	s, f := spec.Parse(text)
	if f != (api.Fault{}) {
		t.Fatalf("%s: %+v", text, f)
	}
	return s
}

func built(t *testing.T, s api.Spec) *states.Automaton {
	t.Helper()
	a, f := states.Build(s)
	if a == nil || f != (api.Fault{}) {
		t.Fatalf("%+v of %+v", f, s)
	}
	return a
}

func made(t *testing.T, s api.Spec) *table.Table {
	t.Helper()
	x, err := table.Make(built(t, s))
	if x == nil || err != api.OK {
		t.Fatalf("P904: %v of %+v", err, s)
	}
	return x
}

const tenTokens = `token num = /[0-9]+/; token plus = /\+/; token semi = /;/; skip ws = / +/; start L; `

// ten is the spec of the document's ten examples.
func ten(t *testing.T) api.Spec {
	t.Helper()
	return read(t, tenTokens+"L = L S | ; S = E semi | error semi; E = E plus T | T; T = num;")
}

// printed tells what a table does: of each state the actions at all numbers that are terminals or could be, and what lies behind its names.
func printed(x *table.Table) string {
	var b strings.Builder
	s := x.States().Spec()
	for n := range x.States().Len() {
		fmt.Fprintf(&b, "%d:", n)
		for t := range len(s.Lex) + 2 {
			a := x.Action(n, t)
			fmt.Fprintf(&b, " %s", []string{".", fmt.Sprint("s", a.N), fmt.Sprint("r", a.N), "a"}[a.Kind])
		}
		b.WriteString(" |")
		for k := range s.Names {
			fmt.Fprintf(&b, " %d", x.Goto(n, k))
		}
		b.WriteString("\n")
	}
	return b.String()
}

const tenPrinted = `0: r1 . . . r1 r1 | 1 -1 -1 -1
1: s2 . . . s3 a | -1 4 5 6
2: . r6 r6 . . . | -1 -1 -1 -1
3: . . s7 . . . | -1 -1 -1 -1
4: r0 . . . r0 r0 | -1 -1 -1 -1
5: . s8 s9 . . . | -1 -1 -1 -1
6: . r5 r5 . . . | -1 -1 -1 -1
7: r3 . . . r3 r3 | -1 -1 -1 -1
8: s2 . . . . . | -1 -1 -1 10
9: r2 . . . r2 r2 | -1 -1 -1 -1
10: . r4 r4 . . . | -1 -1 -1 -1
`

func wantLook(t *testing.T, x *table.Table, state, production int, want ...int) {
	t.Helper()
	if got := x.Look(state, production); !slices.Equal(got, want) {
		t.Errorf("P905: Look(%d, %d): %v, not %v", state, production, got, want)
	}
}

func wantAction(t *testing.T, x *table.Table, state, terminal, kind, n int) {
	t.Helper()
	if got := x.Action(state, terminal); got != (api.Action{Kind: kind, N: n}) {
		t.Errorf("P905: Action(%d, %d): %v, not {%d %d}", state, terminal, got, kind, n)
	}
}

func wantGoto(t *testing.T, x *table.Table, state, name, want int) {
	t.Helper()
	if got := x.Goto(state, name); got != want {
		t.Errorf("P905: Goto(%d, %d): %d, not %d", state, name, got, want)
	}
}

func wantRun(t *testing.T, x *table.Table, stack []int, terminal int, ok bool, want ...int) {
	t.Helper()
	if got, is := x.Run(stack, terminal); is != ok || !slices.Equal(got, want) {
		t.Errorf("P906: Run(%v, %d): %v %v, not %v %v", stack, terminal, got, is, want, ok)
	}
}

// TestExamples: the first three of the chapter.
func TestExamples(t *testing.T) {
	x := made(t, ten(t))
	wantLook(t, x, 0, 1, 0, 4, 5)
	wantAction(t, x, 0, 0, api.AReduce, 1)
	wantAction(t, x, 0, 1, api.ANone, 0)
	wantAction(t, x, 0, 3, api.ANone, 0)
	wantAction(t, x, 1, 5, api.AAccept, 0)
	wantAction(t, x, 1, 0, api.AShift, 2)
	wantGoto(t, x, 1, 2, 5)
	wantLook(t, x, 1, -1, 5)
	wantRun(t, x, []int{0}, 0, true, 1)
	wantRun(t, x, []int{0, 1, 2}, 1, true, 6, 5)
	wantRun(t, x, []int{0, 1, 2}, 0, false)
	wantRun(t, x, []int{0, 1, 2}, 5, false)
	wantRun(t, x, nil, 0, false)
	wantRun(t, x, []int{1}, 0, false)
	wantRun(t, x, []int{0, 2}, 0, false)
	if got := printed(x); got != tenPrinted {
		t.Errorf("P902:\n%s", got)
	}
}

// TestConflictExamples: the last two of the chapter.
func TestConflictExamples(t *testing.T) {
	a := built(t, read(t, tenTokens+"L = L S | ; S = E semi | error semi; E = E plus E | T; T = num;"))
	at := a.Run([]api.Sym{name(0), name(2), term(1), name(2)})
	wantConflicts(t, a, api.Conflict{
		State: at, Terminal: 1, Shift: a.Go(at, term(1)), First: 4, Second: -2,
		Prefix: []api.Sym{name(0), name(2), term(1), name(2)}, Example: []int{0, 1, 0, 1},
	})
	a = built(t, read(t, "token X = /x/; start S; S = a | b; a = X; b = X;"))
	wantConflicts(t, a, api.Conflict{
		State: a.Run([]api.Sym{term(0)}), Terminal: 2, Shift: -1, First: 2, Second: 3,
		Prefix: []api.Sym{term(0)}, Example: []int{0, 2},
	})
}

// same asks whether conflicts are the same; nil and empty lists are.
func same(x, y api.Conflict) bool {
	sameLists := slices.Equal(x.Prefix, y.Prefix) && slices.Equal(x.Example, y.Example)
	x.Prefix, x.Example, y.Prefix, y.Example = nil, nil, nil, nil
	return sameLists && reflect.DeepEqual(x, y)
}

// wantConflicts asks for all conflicts, and for Make's refusal of them.
func wantConflicts(t *testing.T, a *states.Automaton, want ...api.Conflict) {
	t.Helper()
	if got := table.All(a); !slices.EqualFunc(got, want, same) {
		t.Errorf("P903: %+v, not %+v", got, want)
	}
	x, err := table.Make(a)
	if (x == nil) != (len(want) > 0) || (err == api.ErrConflict) != (len(want) > 0) || x != nil && err != api.OK {
		t.Errorf("P904: %v %v beside %d conflicts", x, err, len(want))
	}
}

// TestStates: a table's automaton is that of which it was made, or answers the same.
func TestStates(t *testing.T) {
	a := built(t, ten(t))
	x, err := table.Make(a)
	if err != api.OK || x.States() == nil || x.States().Print() != a.Print() || !reflect.DeepEqual(x.States().Spec(), a.Spec()) {
		t.Errorf("P904: %v %v", x, err)
	}
	wantConflicts(t, a)
}

// TestOrder: the conflicts come by rising states, then by rising terminals, with all kinds of them: a shift and one production, a shift and several, several without a shift, acceptance and productions.
func TestOrder(t *testing.T) {
	a := built(t, read(t, "token x = /x/; token y = /y/; start S; S = A x | B x | x x | S | S error y | S C | S C; A = x; B = x | x; C = error | ;"))
	at := func(l ...api.Sym) int { return a.Run(l) }
	x, s, e, c := at(term(0)), at(name(0)), at(name(0), wrong()), at(name(0), name(3))
	errorAt, endAt := 2, 3
	want := []api.Conflict{
		{State: x, Terminal: 0, Shift: at(term(0), term(0)), First: 7, Second: 8, Prefix: []api.Sym{term(0)}, Example: []int{0, 0}},
		{State: s, Terminal: errorAt, Shift: e, First: 3, Second: 11, Prefix: []api.Sym{name(0)}, Example: []int{0, 0, errorAt}},
		{State: s, Terminal: endAt, Shift: -1, First: -1, Second: 3, Prefix: []api.Sym{name(0)}, Example: []int{0, 0, endAt}},
		{State: c, Terminal: errorAt, Shift: -1, First: 5, Second: 6, Prefix: []api.Sym{name(0), name(3)}, Example: []int{0, 0, errorAt}},
		{State: c, Terminal: endAt, Shift: -1, First: 5, Second: 6, Prefix: []api.Sym{name(0), name(3)}, Example: []int{0, 0, endAt}},
	}
	slices.SortStableFunc(want, func(x, y api.Conflict) int { return x.State - y.State })
	wantConflicts(t, a, want...)
}

// TestStateNought: a conflict in state 0 has no prefix, and its terminal alone as its example.
func TestStateNought(t *testing.T) {
	a := built(t, read(t, "token x = /x/; start S; S = A x | B x; A = ; B = ;"))
	wantConflicts(t, a, api.Conflict{State: 0, Terminal: 0, Shift: -1, First: 2, Second: 3, Example: []int{0}})
	a = built(t, api.Spec{Names: names(1), Productions: []api.Production{makes(0), makes(0, name(0), name(0))}})
	prefix := []api.Sym{name(0)}
	wantConflicts(t, a,
		api.Conflict{State: 1, Terminal: 1, Shift: -1, First: -1, Second: 0, Prefix: prefix, Example: []int{1}},
		api.Conflict{State: 2, Terminal: 1, Shift: -1, First: 0, Second: 1, Prefix: []api.Sym{name(0), name(0)}, Example: []int{1}})
}

// TestErrorInPrefix: the symbol error is told as its number.
func TestErrorInPrefix(t *testing.T) {
	a := built(t, read(t, "skip w = / /; token x = /x/; start S; S = error A x | error B x; A = ; B = error | ;"))
	prefix := []api.Sym{wrong()}
	wantConflicts(t, a, api.Conflict{State: a.Run(prefix), Terminal: 1, Shift: -1, First: 2, Second: 4, Prefix: prefix, Example: []int{2, 1}})
}

// tower has a name, 1, whose only sentence is as long as the product of its numbers; Start is A | B, and both make that name, so that there is a conflict behind it at end. A production beside it makes rule 1 in two ways.
func tower(sizes ...int) api.Spec {
	s := api.Spec{Lex: rules(2), Names: names(1 + len(sizes) + 2)}
	a, b := len(s.Names)-2, len(s.Names)-1
	for i, n := range sizes {
		below := name(i + 2)
		if i == len(sizes)-1 {
			below = term(0)
		}
		s.Productions = append(s.Productions, makes(i+1, slices.Repeat([]api.Sym{below}, n)...))
	}
	s.Productions = append(s.Productions, makes(0, name(a)), makes(0, name(b)))
	for _, x := range []int{a, b} {
		s.Productions = append(s.Productions, makes(x, name(1)), makes(x, term(1)))
	}
	return s
}

// TestLongExamples: an example with more than MaxYield numbers is not told, others beside it are; where a name's shortest sentence is too long, none is told.
func TestLongExamples(t *testing.T) {
	for _, c := range []struct {
		sizes      []int
		short, all bool
	}{
		{[]int{13, 7, 5, 9}, true, true}, // 4095 and the terminal
		{[]int{16, 16, 16}, true, false}, // 4096 and the terminal
		{[]int{16, 16, 15}, true, true},
		{[]int{2, 16, 16, 16}, false, false}, // sets.Yields answers ErrFull
	} {
		s := tower(c.sizes...)
		a := built(t, s)
		prefix := []api.Sym{name(1)}
		first := len(c.sizes) + 2
		short := api.Conflict{State: a.Run([]api.Sym{term(1)}), Terminal: 3, Shift: -1, First: first + 1, Second: first + 3, Prefix: []api.Sym{term(1)}}
		long := api.Conflict{State: a.Run(prefix), Terminal: 3, Shift: -1, First: first, Second: first + 2, Prefix: prefix}
		if c.short {
			short.Example = []int{1, 3}
		}
		if c.all {
			rows, f := sets.Yields(s)
			if f != (api.Fault{}) {
				t.Fatal(f)
			}
			long.Example = append(rows[1], 3)
		}
		wantConflicts(t, a, short, long)
	}
}

// TestNotLALR: the collection has no conflict as it is, but has one when the states of equal cores are made one.
func TestNotLALR(t *testing.T) {
	a := built(t, read(t, "token x = /x/; token y = /y/; token z = /z/; token w = /w/; start S; S = x A z | y A w | x B w | y B z; A = z; B = z;"))
	prefix := []api.Sym{term(0), term(2)}
	at := a.Run(prefix)
	wantConflicts(t, a,
		api.Conflict{State: at, Terminal: 2, Shift: -1, First: 4, Second: 5, Prefix: prefix, Example: []int{0, 2, 2}},
		api.Conflict{State: at, Terminal: 3, Shift: -1, First: 4, Second: 5, Prefix: prefix, Example: []int{0, 2, 3}})
}

// TestLookaheads: what stands behind a name somewhere else is no lookahead; what stands behind names that are nothing is one.
func TestLookaheads(t *testing.T) {
	x := made(t, read(t, "token id = /i/; token eq = /=/; token star = /[*]/; start S; S = V eq E | E; V = star E | id; E = V;"))
	run := x.States().Run
	wantLook(t, x, run([]api.Sym{name(1)}), 4, 4)
	wantLook(t, x, run([]api.Sym{term(2), name(1)}), 4, 1, 4)
	wantLook(t, x, run([]api.Sym{name(1), term(1), name(1)}), 4, 1, 4)
	wantLook(t, x, run([]api.Sym{term(0)}), 3, 1, 4)
	x = made(t, read(t, "token a = /a/; token b = /b/; token c = /c/; start S; S = A B C; A = a | ; B = b | ; C = c | ;"))
	wantLook(t, x, 0, 2, 1, 2, 4)
	wantLook(t, x, x.States().Run([]api.Sym{name(1)}), 4, 2, 4)
	wantLook(t, x, x.States().Run([]api.Sym{name(1), name(2)}), 6, 4)
	x = made(t, read(t, "token a = /a/; start S; S = error A | A a A; A = error a | ;"))
	wantLook(t, x, 0, 3, 0)
	wantLook(t, x, x.States().Run([]api.Sym{wrong()}), 3, 2)
}

// TestSmallest: specs that are hardly any; error is 0 and end is 1.
func TestSmallest(t *testing.T) {
	for _, c := range []struct {
		productions []api.Production
		want        string
	}{
		{[]api.Production{makes(0)}, "0: . r0 | 1\n1: . a | -1\n"},
		{[]api.Production{makes(0, wrong())}, "0: s1 . | 2\n1: . r0 | -1\n2: . a | -1\n"},
		{[]api.Production{makes(0), makes(0, name(0), wrong())}, "0: r0 r0 | 1\n1: s2 a | -1\n2: r1 r1 | -1\n"},
		{[]api.Production{makes(0), makes(0, wrong(), name(0))}, "0: s1 r0 | 2\n1: s1 r0 | 3\n2: . a | -1\n3: . r1 | -1\n"},
	} {
		if got := printed(made(t, api.Spec{Names: names(1), Productions: c.productions})); got != c.want {
			t.Errorf("P902: %s, not %s", got, c.want)
		}
	}
}

// TestMostRules: as many rules as there may be, error and end behind them; the rule 40 is trivia.
func TestMostRules(t *testing.T) {
	s := api.Spec{Lex: rules(api.MaxLex), Names: names(2), Productions: []api.Production{makes(0, name(0), name(1)), makes(0), makes(1, wrong())}}
	s.Lex[40].Trivia = true
	all := []int{}
	for i := range api.MaxLex + 2 {
		if i != 40 {
			all = append(all, i)
		}
		if i != 40 && i < api.MaxLex {
			s.Productions = append(s.Productions, makes(1, term(i)))
		}
	}
	x := made(t, s)
	a := x.States()
	wantLook(t, x, 0, 1, all...)
	wantLook(t, x, 1, -1, 65)
	for _, n := range all[:len(all)-1] {
		symbol := term(n)
		if n == api.MaxLex {
			symbol = wrong()
		}
		to := a.Go(1, symbol)
		wantAction(t, x, 0, n, api.AReduce, 1)
		wantAction(t, x, 1, n, api.AShift, to)
		wantAction(t, x, to, 63, api.AReduce, a.Kernel(to)[0].Production)
		wantLook(t, x, to, a.Kernel(to)[0].Production, all...)
	}
	for _, n := range []int{40, 66, -1} {
		wantAction(t, x, 0, n, api.ANone, 0)
		wantRun(t, x, []int{0}, n, false)
	}
	wantRun(t, x, []int{0}, 65, true, 1)
	wantRun(t, x, []int{0, 1}, 65, true)
}

func farNumbers() []int {
	return []int{math.MinInt, math.MinInt32, -1000, -3, -2, -1, 11, 12, 63, 64, 65, 66, 67, 127, 128, 511, 512, 1023, 1024, 1 << 20, math.MaxInt32, math.MaxInt}
}

// TestNoNumbers: numbers that are no state's, no production's, no terminal's, no name's.
func TestNoNumbers(t *testing.T) {
	x := made(t, ten(t))
	for _, n := range farNumbers() {
		for k := -3; k < 12; k++ {
			wantLook(t, x, n, k)
			wantAction(t, x, n, k, api.ANone, 0)
			wantGoto(t, x, n, k, -1)
			if n != -1 || k != 1 {
				wantLook(t, x, k, n)
			}
			wantAction(t, x, k, n, api.ANone, 0)
			wantGoto(t, x, k, n, -1)
		}
		wantRun(t, x, []int{0}, n, false)
		wantRun(t, x, []int{0, 1}, n, false)
		wantRun(t, x, []int{n}, 0, false)
		wantRun(t, x, []int{n, 1}, 0, false)
		wantRun(t, x, []int{0, n}, 0, false)
		wantRun(t, x, []int{0, 1, n, 4}, 0, false)
	}
	for n := range 11 {
		wantAction(t, x, n, 3, api.ANone, 0) // trivia
		wantAction(t, x, n, 6, api.ANone, 0) // behind end
		wantGoto(t, x, n, 4, -1)
		wantLook(t, x, n, 7)
		if n != 1 {
			wantLook(t, x, n, -1) // the added production is to be reduced in state 1 alone
		}
	}
	wantLook(t, x, 1, 0) // passed in part
	wantLook(t, x, 0, 0) // not passed at all
	wantLook(t, x, 4, 1)
}

// TestRows: rows as they lie on a stack, and others.
func TestRows(t *testing.T) {
	x := made(t, ten(t))
	wantRun(t, x, []int{0}, 4, true, 1)
	wantRun(t, x, []int{0}, 5, true, 1)
	wantRun(t, x, []int{0}, 1, false)
	wantRun(t, x, []int{0}, 3, false)
	wantRun(t, x, []int{0, 1}, 0, true)
	wantRun(t, x, []int{0, 1}, 4, true)
	wantRun(t, x, []int{0, 1}, 5, true)
	wantRun(t, x, []int{0, 1}, 2, false)
	wantRun(t, x, []int{0, 1, 3}, 2, true)
	wantRun(t, x, []int{0, 1, 3, 7}, 5, true, 3, 0)
	wantRun(t, x, []int{0, 1, 5, 8, 2}, 2, true, 6, 4)
	wantRun(t, x, []int{0, 1, 5, 8, 2}, 5, false)
	wantRun(t, x, []int{0, 1, 5, 9}, 5, true, 2, 0)
	wantRun(t, x, []int{0, 1, 5, 9}, 0, true, 2, 0)
	wantRun(t, x, []int{0, 1, 5, 8, 10}, 1, true, 4)
	for _, l := range [][]int{{}, {1}, {5}, {0, 0}, {0, 0, 1}, {0, 1, 1}, {0, 1, 0}, {0, 5}, {0, 1, 2, 3}, {0, 1, 5, 10}, {1, 4}, {0, 1, 8, 2}, {0, 1, 5, 8, 5}, {0, 1, 5, 8, 2, 2}, {0, 1, 9, 4}} {
		for terminal := -1; terminal < 8; terminal++ {
			wantRun(t, x, l, terminal, false)
		}
	}
}

// TestLongRows: rows of many states, and very many productions.
func TestLongRows(t *testing.T) {
	x := made(t, api.Spec{Lex: rules(1), Names: names(1), Productions: []api.Production{makes(0, term(0), name(0)), makes(0)}})
	const deep = 200000
	stack := slices.Repeat([]int{1}, deep)
	stack[0] = 0
	wantRun(t, x, stack, 0, true)
	wantRun(t, x, stack, 1, false)
	got, ok := x.Run(stack, 2)
	if !ok || len(got) != deep || got[0] != 1 || slices.ContainsFunc(got[1:], func(p int) bool { return p != 0 }) {
		t.Errorf("P906: %d productions, %v", len(got), ok)
	}
	wantRun(t, x, append(slices.Clone(stack), 0, 1), 2, false)
}
