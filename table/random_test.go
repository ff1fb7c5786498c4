package table_test

import (
	"fmt"
	"math/rand"
	"reflect"
	"slices"
	"testing"

	"graft/api"
	"graft/sets"
	"graft/states"
	"graft/table"
)

// TestAgainstCollection is P901, P902, P903 and P905: lookaheads, actions and conflicts are those of the canonical LR(1) collection with the states of equal cores made one.
func TestAgainstCollection(t *testing.T) {
	r := rand.New(rand.NewSource(1))
	fine, onlyMerged, fewerThanFollow := 0, 0, 0
	for i := range 9000 {
		s := random(r, few(r))
		if i%3 == 0 {
			s = near(t, r)
		}
		m, a := newModel(s), built(t, s)
		collection := m.collection(400)
		if collection == nil {
			continue
		}
		merged, ok := m.merged(collection, a)
		if !ok {
			t.Fatalf("the cores are not the automaton's, of %+v", s)
		}
		want := m.conflicts(merged, a)
		wantConflicts(t, a, want...)
		if len(want) > 0 {
			if !slices.ContainsFunc(collection, m.torn) {
				onlyMerged++
			}
			continue
		}
		fine++
		if againstMerged(t, m, a, merged) {
			fewerThanFollow++
		}
		if t.Failed() {
			t.Fatalf("of %+v", s)
		}
	}
	if fine < 1000 || onlyMerged < 10 || fewerThanFollow < 300 {
		t.Errorf("%d without conflicts, %d with conflicts by merging alone, %d with fewer lookaheads than followers", fine, onlyMerged, fewerThanFollow)
	}
}

// againstMerged holds a table against merged states, and tells whether a production has fewer lookaheads somewhere than terminals follow its name. That it has no others is P907.
func againstMerged(t *testing.T, m model, a *states.Automaton, merged []itemSet) bool {
	t.Helper()
	x, _ := table.Make(a)
	follow, _ := sets.Follow(m.s)
	fewer := false
	for n, set := range merged {
		looks := make([][]int, len(m.s.Productions)+1)
		for terminal := -2; terminal < m.endAt()+3; terminal++ {
			var want api.Action
			for _, p := range m.reduced(set, terminal) {
				looks[p+1] = append(looks[p+1], terminal)
				if want = (api.Action{Kind: api.AReduce, N: p}); p == -1 {
					want = api.Action{Kind: api.AAccept}
				}
			}
			if m.shifts(set, terminal) {
				want = api.Action{Kind: api.AShift, N: a.Go(n, m.symbol(terminal))}
			}
			wantAction(t, x, n, terminal, want.Kind, want.N)
		}
		wantLook(t, x, n, -1, looks[0]...)
		for p, want := range looks[1:] {
			wantLook(t, x, n, p, want...)
			behind := follow[m.s.Productions[p].Left]
			if slices.ContainsFunc(x.Look(n, p), func(terminal int) bool { return !slices.Contains(behind, terminal) }) {
				t.Errorf("P907: Look(%d, %d): %v, but %v follow", n, p, x.Look(n, p), behind)
			}
			fewer = fewer || len(want) > 0 && len(want) < len(behind)
		}
		for k := -1; k <= len(m.s.Names); k++ {
			wantGoto(t, x, n, k, a.Go(n, name(k)))
		}
	}
	return fewer
}

// sound makes random specs without conflicts, and hands them to a function with their tables.
func sound(t *testing.T, seed int64, count int, do func(r *rand.Rand, m model, x *table.Table)) {
	t.Helper()
	r := rand.New(rand.NewSource(seed))
	for count > 0 {
		s := random(r, few(r))
		if r.Intn(2) == 0 {
			s = near(t, r)
		}
		if x, err := table.Make(built(t, s)); err == api.OK {
			do(r, newModel(s), x)
			count--
		}
		if t.Failed() {
			t.Fatalf("of %+v", s)
		}
	}
}

// sentences are all of Start's with at most so many terminals, each as a text of them.
func (m model) sentences(most int) map[string]bool {
	known := make([]map[string][]int, len(m.s.Names))
	for i := range known {
		known[i] = map[string][]int{}
	}
	for grew := true; grew; {
		grew = false
		for _, p := range m.s.Productions {
			for _, l := range m.rows(known, p.Right, most) {
				if k := fmt.Sprint(l); known[p.Left][k] == nil {
					known[p.Left][k] = append([]int{}, l...)
					grew = true
				}
			}
		}
	}
	out := map[string]bool{}
	for k := range known[m.s.Start] {
		out[k] = true
	}
	return out
}

// rows are those that a right side makes out of what is known of its names.
func (m model) rows(known []map[string][]int, right []api.Sym, most int) [][]int {
	out := [][]int{{}}
	for _, x := range right {
		tails := map[string][]int{"": {m.number(x)}}
		if x.Kind == api.SName {
			tails = known[x.N]
		}
		var longer [][]int
		for _, l := range out {
			for _, tail := range tails {
				if len(l)+len(tail) <= most {
					longer = append(longer, slices.Concat(l, tail))
				}
			}
		}
		out = longer
	}
	return out
}

// drive goes from state 0 along a row of terminals with end behind it, and does what Action says; it tells the productions that were reduced, and whether it came to acceptance.
func drive(x *table.Table, row []int) ([]int, bool) {
	productions := x.States().Spec().Productions
	stack, done := []int{0}, []int{}
	for i := 0; ; {
		terminal := len(x.States().Spec().Lex) + 1
		if i < len(row) {
			terminal = row[i]
		}
		switch a := x.Action(stack[len(stack)-1], terminal); a.Kind {
		case api.AShift:
			stack = append(stack, a.N)
			i++
		case api.AReduce:
			done = append(done, a.N)
			p := productions[a.N]
			stack = stack[:len(stack)-len(p.Right)]
			stack = append(stack, x.Goto(stack[len(stack)-1], p.Left))
		case api.AAccept:
			return done, true
		default:
			return nil, false
		}
	}
}

// derived replaces the rightmost name by the right sides of productions, the last one first, beginning with Start.
func (m model) derived(done []int) ([]int, bool) {
	form := []api.Sym{name(m.s.Start)}
	for _, p := range slices.Backward(done) {
		at := rightmost(form)
		if at < 0 || form[at] != name(m.s.Productions[p].Left) {
			return nil, false
		}
		form = slices.Concat(form[:at], m.s.Productions[p].Right, form[at+1:])
	}
	var out []int
	for _, x := range form {
		out = append(out, m.number(x))
	}
	return out, rightmost(form) < 0
}

// rightmost is the place of a form's last name; -1: none.
func rightmost(form []api.Sym) int {
	for i, x := range slices.Backward(form) {
		if x.Kind == api.SName {
			return i
		}
	}
	return -1
}

// TestSentences is P908: of all short rows of terminals just the sentences come to acceptance, each by a rightmost derivation of it.
func TestSentences(t *testing.T) {
	total := 0
	sound(t, 2, 250, func(r *rand.Rand, m model, x *table.Table) {
		const most = 4
		sentences := m.sentences(most)
		total += len(sentences)
		rows := [][]int{{}}
		for i := 0; i < len(rows); i++ {
			l := rows[i]
			done, ok := drive(x, l)
			if want := sentences[fmt.Sprint(l)]; ok != want {
				t.Fatalf("P908: %v: %v, not %v, of %+v", l, ok, want, m.s)
			}
			if got, whole := m.derived(done); ok && (!whole || !slices.Equal(got, l)) {
				t.Fatalf("P908: %v: %v derive %v, of %+v", l, done, got, m.s)
			}
			for _, terminal := range m.terminals() {
				if len(l) < most && terminal != m.endAt() {
					rows = append(rows, append(slices.Clone(l), terminal))
				}
			}
		}
	})
	if total < 1000 {
		t.Errorf("%d sentences", total)
	}
}

// TestLongSentences is P908 for sentences that derivations give, and for rows beside them.
func TestLongSentences(t *testing.T) {
	sound(t, 3, 300, func(r *rand.Rand, m model, x *table.Table) {
		rows, f := sets.Yields(m.s)
		if f != (api.Fault{}) {
			t.Fatal(f)
		}
		for range 10 {
			l := m.sentence(r, rows)
			done, ok := drive(x, l)
			if got, whole := m.derived(done); !ok || !whole || !slices.Equal(got, l) {
				t.Errorf("P908: %v: %v %v", l, done, ok)
			}
		}
	})
}

// sentence replaces names of a form as it comes, for a while, then by their shortest rows.
func (m model) sentence(r *rand.Rand, rows [][]int) []int {
	form := []api.Sym{name(m.s.Start)}
	for range 30 {
		at := r.Intn(len(form) + 1)
		if at == len(form) || form[at].Kind != api.SName {
			continue
		}
		if p := m.s.Productions[r.Intn(len(m.s.Productions))]; form[at] == name(p.Left) {
			form = slices.Concat(form[:at], p.Right, form[at+1:])
		}
	}
	var out []int
	for _, x := range form {
		if x.Kind == api.SName {
			out = append(out, rows[x.N]...)
		} else {
			out = append(out, m.number(x))
		}
	}
	return out
}

// TestForms is P901 by its words: where a rightmost derivation replaces A by a right side, the terminal behind A is a lookahead in the state to which the form up to the handle's end leads.
func TestForms(t *testing.T) {
	sound(t, 4, 400, func(r *rand.Rand, m model, x *table.Table) {
		for range 10 {
			form := []api.Sym{name(m.s.Start)}
			for range 25 {
				at := rightmost(form)
				p := r.Intn(len(m.s.Productions))
				if at < 0 {
					break
				}
				if form[at] != name(m.s.Productions[p].Left) {
					continue
				}
				terminal := m.endAt()
				if at+1 < len(form) {
					terminal = m.number(form[at+1])
				}
				front := slices.Concat(form[:at], m.s.Productions[p].Right)
				if n := x.States().Run(front); !slices.Contains(x.Look(n, p), terminal) {
					t.Errorf("P901: %v by %d: Look(%d, %d) is %v", form, p, n, p, x.Look(n, p))
				}
				form = slices.Concat(front, form[at+1:])
			}
		}
	})
}

// goesOn is P12: a row of symbols and a terminal go on if they are a viable prefix (for end: if the row is Start alone), or if the row's last symbols are a right side, and the row with its name in their place goes on. It tells each row of productions by which it does.
func (m model) goesOn(a *states.Automaton, row []api.Sym, terminal int) [][]int {
	var out [][]int
	if terminal == m.endAt() && slices.Equal(row, []api.Sym{name(m.s.Start)}) || terminal != m.endAt() && a.Run(append(slices.Clone(row), m.symbol(terminal))) >= 0 {
		out = append(out, nil)
	}
	for p, x := range m.s.Productions {
		at := len(row) - len(x.Right)
		if at < 0 || !slices.Equal(row[at:], x.Right) {
			continue
		}
		shorter := append(slices.Clone(row[:at]), name(x.Left))
		if a.Run(shorter) < 0 { // what goes on is a viable prefix
			continue
		}
		for _, rest := range m.goesOn(a, shorter, terminal) {
			out = append(out, append([]int{p}, rest...))
		}
	}
	return out
}

// TestGoesOn is P906 and P909: Run answers true just if the symbols of a row of states and the terminal go on, with the productions that make the stack ready; there is one row of them at most.
func TestGoesOn(t *testing.T) {
	yes, no := 0, 0
	sound(t, 5, 400, func(r *rand.Rand, m model, x *table.Table) {
		a := x.States()
		for range 12 {
			symbols, stack := walked(r, m, a)
			for terminal := -1; terminal < m.endAt()+2; terminal++ {
				var want [][]int
				if slices.Contains(m.terminals(), terminal) {
					want = m.goesOn(a, symbols, terminal)
				}
				switch len(want) {
				case 0:
					no++
					wantRun(t, x, stack, terminal, false)
				case 1:
					yes++
					wantRun(t, x, stack, terminal, true, want[0]...)
				default:
					t.Errorf("P909: %v and %d go on by %v", symbols, terminal, want)
				}
			}
		}
	})
	if yes < 3000 || no < 3000 {
		t.Errorf("%d went on, %d did not", yes, no)
	}
}

// walked is a row of symbols that leads somewhere, as it comes, and its states.
func walked(r *rand.Rand, m model, a *states.Automaton) ([]api.Sym, []int) {
	var symbols []api.Sym
	stack := []int{0}
	for range r.Intn(8) {
		var list []api.Sym
		for _, i := range a.Items(stack[len(stack)-1]) {
			if right := m.right(i.Production); i.Dot < len(right) {
				list = append(list, right[i.Dot])
			}
		}
		if len(list) == 0 {
			break
		}
		x := list[r.Intn(len(list))]
		symbols = append(symbols, x)
		stack = append(stack, a.Go(stack[len(stack)-1], x))
	}
	return symbols, stack
}

// TestOtherRows is P906: rows of any numbers; those that are no row of states, each behind the one ahead, are told nothing of.
func TestOtherRows(t *testing.T) {
	lying, not := 0, 0
	sound(t, 6, 200, func(r *rand.Rand, m model, x *table.Table) {
		a := x.States()
		for range 40 {
			_, stack := walked(r, m, a)
			for range r.Intn(3) {
				stack[r.Intn(len(stack))] = r.Intn(a.Len()+2) - 1
			}
			if lies(m, a, stack) {
				lying++
				continue
			}
			not++
			for _, terminal := range m.terminals() {
				wantRun(t, x, stack, terminal, false)
			}
		}
	})
	if lying < 1000 || not < 1000 {
		t.Errorf("%d rows of states, %d others", lying, not)
	}
}

func lies(m model, a *states.Automaton, stack []int) bool {
	for i, n := range stack {
		if i == 0 && n != 0 {
			return false
		}
		if i > 0 && !slices.ContainsFunc(m.symbols(), func(x api.Sym) bool { return n >= 0 && a.Go(stack[i-1], x) == n }) {
			return false
		}
	}
	return len(stack) > 0
}

// TestOtherNames is P910: patterns, and the names of rules and of names, change nothing.
func TestOtherNames(t *testing.T) {
	r := rand.New(rand.NewSource(7))
	for range 300 {
		s := random(r, few(r))
		a := built(t, s)
		for i := range s.Lex {
			s.Lex[i].Name = []string{"", "error", "a", "a", "\xff"}[r.Intn(5)]
			s.Lex[i].Expr = api.Expr{Kind: r.Intn(6), From: r.Intn(300) - 9, To: r.Intn(300), Min: -r.Intn(3), Max: r.Intn(2), List: make([]api.Expr, r.Intn(3))}
		}
		for i := range s.Names {
			s.Names[i] = []string{"", "error", "a", "end"}[r.Intn(4)]
		}
		b := built(t, s)
		if x, y := table.All(a), table.All(b); !reflect.DeepEqual(x, y) {
			t.Fatalf("P910: %+v, and then %+v, of %+v", x, y, s)
		}
		x, err := table.Make(a)
		y, other := table.Make(b)
		if err != other || err == api.OK && printed(x) != printed(y) {
			t.Fatalf("P910: %v, and then %v, of %+v", err, other, s)
		}
	}
}

// TestOtherOrder is P910: with the productions in another order there are as many conflicts, at the same states and terminals, since no number of a state hangs on that order.
func TestOtherOrder(t *testing.T) {
	r := rand.New(rand.NewSource(8))
	for range 600 {
		s := random(r, few(r))
		before := table.All(built(t, s))
		r.Shuffle(len(s.Productions), func(i, j int) { s.Productions[i], s.Productions[j] = s.Productions[j], s.Productions[i] })
		after := table.All(built(t, s))
		if !slices.EqualFunc(before, after, func(x, y api.Conflict) bool {
			return x.State == y.State && x.Terminal == y.Terminal && x.Shift == y.Shift
		}) {
			t.Fatalf("P910: %+v, and then %+v, of %+v", before, after, s)
		}
	}
}

// TestGreat: grammars with many states end, and tell their conflicts in order.
func TestGreat(t *testing.T) {
	r := rand.New(rand.NewSource(9))
	most := 0
	for i := range 50 {
		s := random(r, []shape{{12, 8, 20, 4}, {70, 64, 100, 5}, {3, 1, 60, 6}, {2, 0, 300, 8}, {40, 6, 100, 5}}[i%5])
		a, f := states.Build(s)
		if f != (api.Fault{}) {
			continue
		}
		most = max(most, a.Len())
		list := table.All(a)
		if x, err := table.Make(a); (err == api.OK) != (len(list) == 0) || (x == nil) != (len(list) > 0) {
			t.Fatalf("P904: %v beside %d conflicts, of %+v", err, len(list), s)
		}
		wantRising(t, a, list)
	}
	if most < 700 {
		t.Errorf("%d states at most", most)
	}
}

// TestMostStates: as many states as there may be: 0, that behind S, and one for each place of right sides that begin with unlike terminals.
func TestMostStates(t *testing.T) {
	s := api.Spec{Names: names(1)}
	for left := api.MaxStates - 2; left > 0; left -= api.MaxRight {
		s.Productions = append(s.Productions, makes(0, slices.Repeat([]api.Sym{term(len(s.Lex))}, min(left, api.MaxRight))...))
		s.Lex = append(s.Lex, api.LexRule{})
	}
	x := made(t, s)
	last := api.MaxStates - 1
	wantLook(t, x, last, x.States().Kernel(last)[0].Production, len(s.Lex)+1)
	for i, p := range s.Productions {
		if done, ok := drive(x, slices.Repeat([]int{i}, len(p.Right))); !ok || !slices.Equal(done, []int{i}) {
			t.Errorf("P908: production %d: %v %v", i, done, ok)
		}
		if _, ok := drive(x, slices.Repeat([]int{i}, len(p.Right)-1)); ok {
			t.Errorf("P908: production %d: one less", i)
		}
	}
	wantAction(t, x, api.MaxStates, 0, api.ANone, 0)
	wantLook(t, x, api.MaxStates, 0)
}

func wantRising(t *testing.T, a *states.Automaton, list []api.Conflict) {
	t.Helper()
	for i, c := range list {
		if i > 0 && (list[i-1].State > c.State || list[i-1].State == c.State && list[i-1].Terminal >= c.Terminal) {
			t.Fatalf("P903: %+v behind %+v", c, list[i-1])
		}
		if !slices.Equal(c.Prefix, a.Path(c.State)) || c.Second != -2 && c.Second <= c.First || c.Second == -2 && c.Shift < 0 {
			t.Fatalf("P903: %+v", c)
		}
	}
}

// simple makes a spec in which the right sides of each name begin with unlike rules, so that there is no conflict; most of them end with a name that is nothing.
func simple(r *rand.Rand) api.Spec {
	const count, each = 60, 6
	s := api.Spec{Lex: rules(api.MaxLex), Names: names(count + 1)}
	s.Productions = []api.Production{makes(count)}
	used := map[int]bool{}
	for n := range count {
		for _, first := range r.Perm(api.MaxLex)[:each] {
			right := []api.Sym{term(first)}
			for range r.Intn(2) {
				right = append(right, name(r.Intn(count)))
			}
			used[first] = true
			s.Productions = append(s.Productions, makes(n, append(right, name(count))...))
		}
		if n+1 < count {
			s.Productions[len(s.Productions)-1].Right[1] = name(n + 1)
		}
		s.Productions[len(s.Productions)-2].Right = s.Productions[len(s.Productions)-2].Right[:1]
	}
	for i := range s.Lex {
		s.Lex[i].Trivia = !used[i]
	}
	return s
}

// TestGreatTables is P908 for grammars with many states and all terminals.
func TestGreatTables(t *testing.T) {
	r := rand.New(rand.NewSource(10))
	for range 4 {
		s := simple(r)
		x, m := made(t, s), newModel(s)
		rows, f := sets.Yields(s)
		if f != (api.Fault{}) || x.States().Len() < 400 {
			t.Fatalf("%+v, %d states", f, x.States().Len())
		}
		for range 50 {
			l := m.sentence(r, rows)
			done, ok := drive(x, l)
			if got, whole := m.derived(done); !ok || !whole || !slices.Equal(got, l) {
				t.Fatalf("P908: %v: %v %v", l, done, ok)
			}
			if _, ok := drive(x, append(l, r.Intn(api.MaxLex))); ok {
				t.Fatalf("P908: %v and one more", l)
			}
		}
	}
}
