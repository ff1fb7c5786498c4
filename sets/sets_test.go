package sets_test

import (
	"slices"
	"testing"

	"graft/api"
	"graft/sets"
)

func term(n int) api.Sym { return api.Sym{Kind: api.STerminal, N: n} }

func name(n int) api.Sym { return api.Sym{Kind: api.SName, N: n} }

func wrong() api.Sym { return api.Sym{Kind: api.SError} }

func makes(left int, right ...api.Sym) api.Production {
	return api.Production{Left: left, Right: right}
}

// example is the chapter's: S -> A B c | error; A -> a A | ; B -> b | A.
func example() api.Spec {
	return api.Spec{
		Lex:   []api.LexRule{{Name: "a"}, {Name: "b"}, {Name: "w", Trivia: true}, {Name: "c"}},
		Names: []string{"S", "A", "B"},
		Productions: []api.Production{
			makes(0, name(1), name(2), term(3)),
			makes(0, wrong()),
			makes(1, term(0), name(1)),
			makes(1),
			makes(2, term(1)),
			makes(2, name(1)),
		},
	}
}

// told is all that is told of a spec.
type told struct {
	null                  []bool
	first, follow, yields [][]int
	full                  api.Fault // of the yields
}

// tell asks all calls of a spec, each of which must answer no fault, but for the yields.
func tell(t *testing.T, s api.Spec) told {
	t.Helper()
	var out told
	var faults [4]api.Fault
	faults[0] = sets.Check(s)
	out.null, faults[1] = sets.Nullable(s)
	out.first, faults[2] = sets.First(s)
	out.follow, faults[3] = sets.Follow(s)
	out.yields, out.full = sets.Yields(s)
	if faults != [4]api.Fault{} {
		t.Fatalf("faults %+v of %+v", faults, s)
	}
	return out
}

func sameLists(a, b [][]int) bool { return slices.EqualFunc(a, b, slices.Equal[[]int]) }

func (a told) same(b told) bool {
	return slices.Equal(a.null, b.null) && sameLists(a.first, b.first) && sameLists(a.follow, b.follow) && sameLists(a.yields, b.yields) && a.full == b.full
}

// wantFault asks all calls of a spec that is not in order.
func wantFault(t *testing.T, what string, s api.Spec, want api.Fault) {
	t.Helper()
	if f := sets.Check(s); f != want {
		t.Errorf("P701: %s: %+v, not %+v", what, f, want)
	}
	null, f := sets.Nullable(s)
	if null != nil || f != want {
		t.Errorf("P701: %s: Nullable: %v %+v, not %+v", what, null, f, want)
	}
	for i, call := range []func(api.Spec) ([][]int, api.Fault){sets.First, sets.Follow, sets.Yields} {
		if l, f := call(s); l != nil || f != want {
			t.Errorf("P701: %s: call %d: %v %+v, not %+v", what, i, l, f, want)
		}
	}
	for _, row := range [][]api.Sym{nil, {{Kind: 9}}, make([]api.Sym, 17)} {
		if l, f := sets.Heads(s, row, []int{-1}); l != nil || f != want {
			t.Errorf("P701: %s: Heads: %v %+v, not %+v", what, l, f, want)
		}
	}
}

func wantHeads(t *testing.T, s api.Spec, row []api.Sym, next []int, want ...int) {
	t.Helper()
	if got, f := sets.Heads(s, row, next); !slices.Equal(got, want) || f != (api.Fault{}) {
		t.Errorf("P705: heads of %v and %v: %v %+v, not %v", row, next, got, f, want)
	}
}

func wantHeadsFault(t *testing.T, s api.Spec, row []api.Sym, next []int, err api.Errno, at int) {
	t.Helper()
	if got, f := sets.Heads(s, row, next); got != nil || f != (api.Fault{Err: err, At: at}) {
		t.Errorf("P705: heads of %v and %v: %v %+v, not %v at %d", row, next, got, f, err, at)
	}
}

func TestExample(t *testing.T) {
	want := told{
		null:   []bool{false, true, true},
		first:  [][]int{{0, 1, 3, 4}, {0}, {0, 1}},
		follow: [][]int{{5}, {0, 1, 3}, {3}},
		yields: [][]int{{3}, {}, {}},
	}
	if got := tell(t, example()); !got.same(want) {
		t.Errorf("P702, P703, P704, P706: %+v, not %+v", got, want)
	}
}

func TestExampleHeads(t *testing.T) {
	s := example()
	wantHeads(t, s, []api.Sym{name(1), name(2)}, nil, 0, 1)
	wantHeads(t, s, []api.Sym{name(1), name(2)}, []int{5}, 0, 1, 5)
	wantHeads(t, s, nil, []int{3, 0}, 0, 3)
}

func TestExampleFaults(t *testing.T) {
	for _, c := range []struct {
		what string
		turn func(s *api.Spec)
		want api.Fault
	}{
		{"start 3", func(s *api.Spec) { s.Start = 3 }, api.Fault{Err: api.ErrIndex, At: -1}},
		{"trivia", func(s *api.Spec) { s.Productions[4].Right[0].N = 2 }, api.Fault{Err: api.ErrTrivia, At: 4}},
		{"error 1", func(s *api.Spec) { s.Productions[1].Right[0].N = 1 }, api.Fault{Err: api.ErrIndex, At: 1}},
		{"without S -> A B c", func(s *api.Spec) { s.Productions = s.Productions[1:] }, api.Fault{Err: api.ErrUnreached, At: 1}},
		{"a rule d", func(s *api.Spec) { s.Lex = append(s.Lex, api.LexRule{Name: "d"}) }, api.Fault{Err: api.ErrUnreached, At: 4}},
		{"C -> a C alone", func(s *api.Spec) {
			s.Names = append(s.Names, "C")
			s.Productions = append(s.Productions, makes(3, term(0), name(3)), makes(0, name(3)))
		}, api.Fault{Err: api.ErrUnproductive, At: 3}},
	} {
		s := example()
		c.turn(&s)
		wantFault(t, c.what, s, c.want)
	}
}

// doubling is A0 -> A1 A1, A1 -> A2 A2 and so on; the last name's right sides are ends.
func doubling(names int, ends ...[]api.Sym) api.Spec {
	s := api.Spec{Lex: []api.LexRule{{Name: "a"}}, Names: make([]string, names)}
	for i := range names - 1 {
		s.Productions = append(s.Productions, makes(i, name(i+1), name(i+1)))
	}
	for _, right := range ends {
		s.Productions = append(s.Productions, makes(names-1, right...))
	}
	return s
}

func TestExampleLongYield(t *testing.T) {
	s := doubling(13, []api.Sym{term(0), term(0)})
	if y, f := sets.Yields(s); y != nil || f != (api.Fault{Err: api.ErrFull}) {
		t.Errorf("P706: %v %+v", y, f)
	}
	s = doubling(14, []api.Sym{term(0), term(0)})
	s.Names, s.Productions = append(s.Names, "B"), append(s.Productions, makes(0, name(14)), makes(14, term(0)))
	if got := tell(t, s); got.full != (api.Fault{Err: api.ErrFull, At: 1}) {
		t.Errorf("P706: with a short sentence of A0: %+v", got.full)
	}
}

func TestHeadsEdges(t *testing.T) {
	s := example()
	wantHeads(t, s, nil, nil)
	wantHeads(t, s, nil, []int{5, 4, 4, 0, 5}, 0, 4, 5)
	wantHeads(t, s, []api.Sym{name(1)}, []int{4, 3, 3}, 0, 3, 4)
	wantHeads(t, s, []api.Sym{wrong(), term(0)}, []int{5}, 4)
	wantHeads(t, s, []api.Sym{name(2), wrong(), term(3)}, []int{5}, 0, 1, 4)
	wantHeads(t, s, []api.Sym{term(3)}, nil, 3)
	wantHeads(t, s, []api.Sym{name(0), term(0)}, []int{5}, 0, 1, 3, 4)
	wantHeads(t, s, slices.Repeat([]api.Sym{name(1)}, 16), []int{5}, 0, 5)
	wantHeads(t, s, append(slices.Repeat([]api.Sym{name(1)}, 15), term(1)), []int{5}, 0, 1)
	wantHeads(t, s, nil, slices.Repeat([]int{1}, 1000), 1)
}

func TestHeadsFaults(t *testing.T) {
	s := example()
	wantHeadsFault(t, s, make([]api.Sym, 17), []int{-1}, api.ErrLong, 0)
	wantHeadsFault(t, s, slices.Repeat([]api.Sym{name(1)}, 17), nil, api.ErrLong, 0)
	wantHeadsFault(t, s, []api.Sym{term(2)}, []int{2}, api.ErrTrivia, 0)
	wantHeadsFault(t, s, []api.Sym{term(0), term(2), term(9)}, nil, api.ErrTrivia, 1)
	wantHeadsFault(t, s, []api.Sym{term(0), term(9), term(2)}, nil, api.ErrIndex, 1)
	for _, x := range []api.Sym{{}, {Kind: 4}, {Kind: -1}, term(-1), term(4), term(5), name(-1), name(3), {Kind: api.SError, N: 1}, {Kind: api.SError, N: -1}} {
		wantHeadsFault(t, s, []api.Sym{term(0), name(1), x}, []int{-1}, api.ErrIndex, 2)
		wantHeadsFault(t, s, []api.Sym{x, x}, nil, api.ErrIndex, 0)
	}
	for _, n := range []int{-1, 2, 6, 64, 1 << 40, -1 << 63, 1<<63 - 1} {
		wantHeadsFault(t, s, []api.Sym{term(0)}, []int{0, 4, 5, n, -1}, api.ErrTerminal, 3)
		wantHeadsFault(t, s, nil, []int{n}, api.ErrTerminal, 0)
	}
}

// TestStart: end follows the start, wherever it stands; and what else follows it too.
func TestStart(t *testing.T) {
	s := api.Spec{
		Lex: []api.LexRule{{}, {}}, Names: []string{"A", "S"}, Start: 1,
		Productions: []api.Production{makes(1, name(0), name(1), term(0)), makes(1), makes(0, term(1)), makes(0, name(1), wrong())},
	}
	want := told{
		null:   []bool{false, true},
		first:  [][]int{{1, 2}, {1, 2}},
		follow: [][]int{{0, 1, 2}, {0, 2, 3}},
		yields: [][]int{{1}, {}},
	}
	if got := tell(t, s); !got.same(want) {
		t.Errorf("P702, P703, P704, P706: %+v, not %+v", got, want)
	}
}

func TestYields(t *testing.T) {
	for _, c := range []struct {
		what   string
		prods  []api.Production
		yields [][]int
	}{
		{"shorter, not less", []api.Production{makes(0, term(0), term(0)), makes(0, term(1)), makes(1, term(2)), makes(0, name(1), name(1))}, [][]int{{1}, {2}}},
		{"of equally long ones the least", []api.Production{makes(0, term(1), term(0)), makes(0, name(1), term(2)), makes(1, term(1)), makes(1, term(0))}, [][]int{{0, 2}, {0}}},
		{"least at the first place that differs", []api.Production{makes(0, name(1), term(2), term(0)), makes(0, name(1), term(1), term(2)), makes(1, term(0))}, [][]int{{0, 1, 2}, {0}}},
		{"error is behind all rules", []api.Production{makes(0, wrong()), makes(0, term(2)), makes(1, wrong()), makes(0, name(1), term(0), term(1))}, [][]int{{2}, {3}}},
		{"through each other", []api.Production{makes(0, name(1)), makes(1, name(0)), makes(0, term(2)), makes(1, term(1)), makes(1, term(0), wrong())}, [][]int{{1}, {1}}},
		{"its own part", []api.Production{makes(0, name(0), name(1)), makes(0, term(1), term(2)), makes(1), makes(1, term(0))}, [][]int{{1, 2}, {}}},
	} {
		s := api.Spec{Lex: make([]api.LexRule, 3), Names: make([]string, 2), Productions: c.prods}
		if y, f := sets.Yields(s); !sameLists(y, c.yields) || f != (api.Fault{}) {
			t.Errorf("P706: %s: %v %+v, not %v", c.what, y, f, c.yields)
		}
	}
}
