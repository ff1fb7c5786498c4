package states_test

import (
	"fmt"
	"math/rand"
	"slices"
	"testing"

	"graft/api"
	"graft/states"
)

// TestAgainstModel: all that is told of random specs is what the chapter's words say, symbol by symbol.
func TestAgainstModel(t *testing.T) {
	r := rand.New(rand.NewSource(1))
	above, most := 0, 0
	for _, h := range shapes() {
		for range 1 + 1200/(h.names*h.names+h.rules*h.rules) {
			s := random(r, h)
			m := model{s}
			want := m.automaton(api.MaxStates)
			a, f := states.Build(s)
			if len(want.kernels) > api.MaxStates {
				above++
				if a != nil || f != (api.Fault{Err: api.ErrStates}) {
					t.Fatalf("P802: %+v of %+v", f, s)
				}
				continue
			}
			if a == nil || f != (api.Fault{}) || a.Len() != len(want.kernels) {
				t.Fatalf("P802: %+v, %d states, not %d, of %+v", f, a.Len(), len(want.kernels), s)
			}
			most = max(most, a.Len())
			againstModel(t, m, a, want)
		}
	}
	if above == 0 || most < 500 {
		t.Errorf("%d specs had too many states, the others had %d at most", above, most)
	}
}

func againstModel(t *testing.T, m model, a *states.Automaton, want automaton) {
	t.Helper()
	entered := make([]api.Sym, a.Len())
	for n := range a.Len() {
		if !slices.Equal(a.Kernel(n), want.kernels[n]) || !slices.Equal(a.Items(n), want.items[n]) {
			t.Fatalf("P801: state %d: %v and %v, not %v and %v, of %+v", n, a.Kernel(n), a.Items(n), want.kernels[n], want.items[n], m.s)
		}
		for _, x := range m.symbols() {
			to, ok := want.goes[n][x]
			if !ok {
				to = -1
			} else {
				entered[to] = x
			}
			if got := a.Go(n, x); got != to {
				t.Fatalf("P803: behind %d and %v: %d, not %d, of %+v", n, x, got, to, m.s)
			}
		}
	}
	for n, want := range entered {
		if x, ok := a.Symbol(n); x != want || ok != (n > 0) {
			t.Fatalf("P803: symbol of %d: %v %v, not %v, of %+v", n, x, ok, want, m.s)
		}
	}
	count := 0
	for n, kernel := range a.All() {
		if n != count || !slices.Equal(kernel, want.kernels[n]) {
			t.Fatalf("P805: %d: %v behind %d, of %+v", n, kernel, count, m.s)
		}
		count++
	}
	if count != a.Len() || a.Print() != m.print() {
		t.Fatalf("P805: %d states:\n%s", count, a.Print())
	}
}

// TestPathsAgainstRows: all short rows are tried, the shorter first and of equally long ones the least first; the first that leads to a state is its path.
func TestPathsAgainstRows(t *testing.T) {
	r := rand.New(rand.NewSource(2))
	for range 400 {
		s := random(r, shape{1 + r.Intn(4), r.Intn(4), r.Intn(5), 1 + r.Intn(3)})
		a := built(t, s)
		met := map[int]bool{}
		rows := [][]api.Sym{nil}
		for range 5 {
			var longer [][]api.Sym
			for _, l := range rows {
				if n := a.Run(l); !met[n] {
					met[n] = true
					if !slices.Equal(a.Path(n), l) {
						t.Fatalf("P803: path of %d: %v, not %v, of %+v", n, a.Path(n), l, s)
					}
				}
				for _, x := range (model{s}).symbols() {
					if more := append(slices.Clone(l), x); a.Run(more) >= 0 {
						longer = append(longer, more)
					}
				}
			}
			if rows = longer; len(rows) > 3000 {
				break
			}
		}
	}
}

// TestPathsTogether is P807: Run of Path(n) is n, no shorter row leads there, and none as long that is less.
func TestPathsTogether(t *testing.T) {
	r := rand.New(rand.NewSource(3))
	for _, h := range shapes()[:7] {
		for range 1 + 200/(h.names*h.names) {
			s := random(r, h)
			a := built(t, s)
			symbols := model{s}.symbols()
			for n := range a.Len() {
				path := a.Path(n)
				if a.Run(path) != n {
					t.Fatalf("P807: %v leads to %d, not %d, of %+v", path, a.Run(path), n, s)
				}
				leastPath(t, a, symbols, n, path)
			}
		}
	}
}

// leastPath asks whether along a path each lesser symbol would lead to where the state is as many steps further on, and whether it lies nearer to state 0.
func leastPath(t *testing.T, a *states.Automaton, symbols []api.Sym, n int, path []api.Sym) {
	t.Helper()
	away := map[int]bool{n: true} // the states that are so many steps away
	for i := len(path) - 1; i >= 0; i-- {
		if away[0] {
			t.Fatalf("P807: a shorter row than %v leads to %d", path, n)
		}
		at := a.Run(path[:i])
		for _, x := range symbols[:slices.Index(symbols, path[i])] {
			if away[a.Go(at, x)] {
				t.Fatalf("P803: %v and %v is less than %v", path[:i], x, path)
			}
		}
		further := map[int]bool{}
		for k := range a.Len() {
			if slices.ContainsFunc(symbols, func(x api.Sym) bool { return away[a.Go(k, x)] }) {
				further[k] = true
			}
		}
		away = further
	}
}

// TestRowsTogether is P807: Go of a row's state is the state of the longer row; unlike states have unlike kernels; each state but 0 lies behind one symbol alone.
func TestRowsTogether(t *testing.T) {
	r := rand.New(rand.NewSource(4))
	for _, h := range shapes()[:8] {
		for range 20 {
			s := random(r, h)
			a, f := states.Build(s)
			if f.Err == api.ErrStates {
				continue
			}
			symbols := model{s}.symbols()
			for range 50 {
				var l []api.Sym
				for range 12 {
					x := symbols[r.Intn(len(symbols))]
					want := a.Go(a.Run(l), x)
					l = append(l, x)
					if got := a.Run(l); got != want {
						t.Fatalf("P807: %v: %d, not %d, of %+v", l, got, want, s)
					}
					if a.Run(l) < 0 && r.Intn(4) > 0 {
						l = l[:len(l)-1]
					}
				}
			}
			kernels := map[string]int{}
			for n, kernel := range a.All() {
				kernels[fmt.Sprint(kernel)]++
				for _, x := range symbols {
					if y, ok := a.Symbol(a.Go(n, x)); ok != (a.Go(n, x) >= 0) || ok && y != x {
						t.Fatalf("P803: behind %d and %v lies a state behind %v, of %+v", n, x, y, s)
					}
				}
			}
			if len(kernels) != a.Len() {
				t.Fatalf("P807: %d kernels of %d states, of %+v", len(kernels), a.Len(), s)
			}
		}
	}
}

// TestOtherNames is P807: other patterns, and other names of rules and names, change nothing.
func TestOtherNames(t *testing.T) {
	r := rand.New(rand.NewSource(5))
	for _, h := range shapes()[:7] {
		for range 10 {
			s := random(r, h)
			a := built(t, s)
			for i := range s.Lex {
				s.Lex[i].Name = []string{"", "error", "a", "a", "\xff"}[r.Intn(5)]
				s.Lex[i].Expr = api.Expr{Kind: r.Intn(6), From: r.Intn(300) - 9, To: r.Intn(300), Min: -r.Intn(3), Max: r.Intn(2), List: make([]api.Expr, r.Intn(3))}
			}
			for i := range s.Names {
				s.Names[i] = []string{"", "error", "a", "end"}[r.Intn(4)]
			}
			b := built(t, s)
			if a.Print() != b.Print() {
				t.Fatalf("P807:\n%s\n%s", a.Print(), b.Print())
			}
			for n := range a.Len() {
				if !slices.Equal(a.Items(n), b.Items(n)) || !slices.Equal(a.Path(n), b.Path(n)) {
					t.Fatalf("P807: state %d of %+v", n, s)
				}
			}
		}
	}
}

// TestTwice: two automata of one spec answer the same.
func TestTwice(t *testing.T) {
	r := rand.New(rand.NewSource(6))
	for range 50 {
		s := random(r, shape{5, 4, 8, 3})
		if a, b := built(t, s), built(t, s); a.Print() != b.Print() {
			t.Fatalf("P3: of %+v", s)
		}
	}
}
