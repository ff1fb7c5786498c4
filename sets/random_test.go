package sets_test

import (
	"math/rand"
	"slices"
	"testing"

	"graft/api"
	"graft/sets"
)

// TestCheckAgainstModel: specs of all kinds, most of them faulty.
func TestCheckAgainstModel(t *testing.T) {
	r := rand.New(rand.NewSource(7))
	met := map[api.Errno]int{}
	for range 20000 {
		s := random(r, shape{1 + r.Intn(4), r.Intn(4), r.Intn(10), r.Intn(4)}, 5+r.Intn(60))
		want := model{s}.fault()
		met[want.Err]++
		if want.Err != api.OK {
			wantFault(t, "random", s, want)
		} else if f := sets.Check(s); f != want {
			t.Errorf("P701: %+v, not %+v", f, want)
		}
		if t.Failed() {
			t.Fatalf("of %+v", s)
		}
	}
	for _, err := range []api.Errno{api.OK, api.ErrIndex, api.ErrTrivia, api.ErrUnreached, api.ErrUnproductive} {
		if met[err] < 50 {
			t.Errorf("%v met %d times", err, met[err])
		}
	}
}

// TestEmptyAgainstModel: deep grammars of nothing, some of whose least trees are too great.
func TestEmptyAgainstModel(t *testing.T) {
	r := rand.New(rand.NewSource(8))
	full := 0
	for range 1500 {
		n := 2 + r.Intn(12)
		s := api.Spec{Names: make([]string, n)}
		for i := range n - 1 {
			s.Productions = append(s.Productions, makes(i, name(i+1)))
			for range r.Intn(4) {
				p := &s.Productions[len(s.Productions)-1]
				p.Right = append(p.Right, name(i+1+r.Intn(n-i-1)))
			}
			if r.Intn(3) == 0 {
				s.Productions = append(s.Productions, makes(i, name(r.Intn(n)), name(r.Intn(n))))
			}
		}
		s.Productions = append(s.Productions, makes(n-1))
		want := model{s}.fault()
		if want.Err == api.ErrFull {
			full++
		}
		if f := sets.Check(s); f != want {
			t.Fatalf("P701: %+v, not %+v, of %+v", f, want, s)
		}
	}
	if full < 100 || full > 1400 {
		t.Errorf("%d of 1500 too great", full)
	}
}

func shapes() []shape {
	return []shape{{1, 1, 2, 2}, {2, 2, 4, 3}, {3, 3, 6, 3}, {4, 3, 8, 4}, {6, 5, 10, 3}, {12, 6, 20, 4}, {30, 20, 50, 3}, {70, 60, 130, 5}}
}

// TestSetsAgainstModel: what is told of specs in order, and the heads of random rows.
func TestSetsAgainstModel(t *testing.T) {
	r := rand.New(rand.NewSource(9))
	for _, h := range shapes() {
		for range 6000 / (h.names * h.names) {
			s := inOrder(r, h)
			m := model{s}
			got := tell(t, s)
			if !slices.Equal(got.null, m.byHeight(false)) {
				t.Fatalf("P702: %v of %+v", got.null, s)
			}
			if want := m.first(); !sameLists(got.first, want) {
				t.Fatalf("P703: %v, not %v, of %+v", got.first, want, s)
			}
			if want := m.follow(); !sameLists(got.follow, want) {
				t.Fatalf("P704: %v, not %v, of %+v", got.follow, want, s)
			}
			for range 5 {
				headsAgainstModel(t, r, s)
			}
		}
	}
}

func headsAgainstModel(t *testing.T, r *rand.Rand, s api.Spec) {
	t.Helper()
	var row []api.Sym
	for range r.Intn(5) {
		row = append(row, randomSymbol(r, s, 0))
	}
	var next []int
	for range r.Intn(4) {
		if n := r.Intn(len(s.Lex) + 2); n >= len(s.Lex) || !s.Lex[n].Trivia {
			next = append(next, n)
		}
	}
	want := model{s}.heads(row, next)
	if got, f := sets.Heads(s, row, next); !slices.Equal(got, want) || f != (api.Fault{}) {
		t.Fatalf("P705: %v and %v: %v %+v, not %v, of %+v", row, next, got, f, want, s)
	}
}

// TestYieldsAgainstRows: of small specs all short rows are found, and the best of them is the yield.
func TestYieldsAgainstRows(t *testing.T) {
	const most = 4
	r := rand.New(rand.NewSource(10))
	for range 1500 {
		s := inOrder(r, shape{1 + r.Intn(4), 1 + r.Intn(2), 1 + r.Intn(6), 3})
		got := tell(t, s)
		for i, rows := range (model{s}).languages(most) {
			best, known := "", false
			for x := range rows {
				if !known || len(x) < len(best) || len(x) == len(best) && x < best {
					best, known = x, true
				}
			}
			yield := ""
			for _, n := range got.yields[i] {
				yield += string(rune(n))
			}
			if known && yield != best || !known && len(yield) <= most {
				t.Fatalf("P706: name %d: %q, not %q, of %+v", i, yield, best, s)
			}
		}
	}
}

// TestYieldsAreBest: a name makes its yield, and no right side of it with yields in its names' places is better; so no row is.
func TestYieldsAreBest(t *testing.T) {
	r := rand.New(rand.NewSource(11))
	for _, h := range shapes()[:7] {
		for range 600 / (h.names * h.names) {
			s := inOrder(r, h)
			got := tell(t, s)
			m := model{s}
			for i, y := range got.yields {
				if len(y) < 12 && !m.makesRow(i, y) {
					t.Fatalf("P706: name %d does not make %v, of %+v", i, y, s)
				}
			}
			for _, p := range s.Productions {
				row, best := m.withYields(p.Right, got.yields), got.yields[p.Left]
				if len(row) < len(best) || len(row) == len(best) && slices.Compare(row, best) < 0 {
					t.Fatalf("P706: name %d: %v is better than %v, of %+v", p.Left, row, best, s)
				}
			}
		}
	}
}

// withYields puts yields in the places of names.
func (m model) withYields(row []api.Sym, yields [][]int) []int {
	var out []int
	for _, x := range row {
		if x.Kind == api.SName {
			out = append(out, yields[x.N]...)
		} else {
			out = append(out, m.number(x))
		}
	}
	return out
}

// TestTogether is P707: what is told of one spec fits together.
func TestTogether(t *testing.T) {
	r := rand.New(rand.NewSource(12))
	for _, h := range shapes() {
		for range 2000 / (h.names * h.names) {
			s := inOrder(r, h)
			got := tell(t, s)
			for i := range s.Names {
				if y := got.yields[i]; (len(y) == 0) != got.null[i] {
					t.Fatalf("P707: name %d: yield %v, nullable %v, of %+v", i, y, got.null[i], s)
				} else if len(y) > 0 && !slices.Contains(got.first[i], y[0]) {
					t.Fatalf("P707: name %d: yield %v, first %v, of %+v", i, y, got.first[i], s)
				}
				wantHeads(t, s, []api.Sym{name(i)}, nil, got.first[i]...)
				for _, l := range [][]int{got.first[i], got.follow[i]} {
					if !slices.IsSorted(l) || len(slices.Compact(slices.Clone(l))) != len(l) {
						t.Fatalf("name %d: %v does not rise, of %+v", i, l, s)
					}
				}
			}
		}
	}
}

// TestFollowIsLeast is P707: the closure, made without the package's own sets, is what Follow tells.
func TestFollowIsLeast(t *testing.T) {
	r := rand.New(rand.NewSource(13))
	for _, h := range shapes()[:6] {
		for range 300 / (h.names * h.names) {
			s := inOrder(r, h)
			want := model{s}.closure()
			if got, f := sets.Follow(s); !sameLists(got, want) || f != (api.Fault{}) {
				t.Fatalf("P707: %v %+v, not %v, of %+v", got, f, want, s)
			}
		}
	}
}

// closure is the least family of P707, one terminal at a time.
func (m model) closure() [][]int {
	out := make([][]int, len(m.s.Names))
	out[m.s.Start] = []int{len(m.s.Lex) + 1}
again:
	for _, p := range m.s.Productions {
		for i, x := range p.Right {
			if x.Kind != api.SName {
				continue
			}
			for _, n := range m.heads(p.Right[i+1:], out[p.Left]) {
				if !slices.Contains(out[x.N], n) {
					out[x.N] = append(out[x.N], n)
					goto again
				}
			}
		}
	}
	for i := range out {
		slices.Sort(out[i])
	}
	return out
}

// TestFirstIsTold is P708: for each terminal in First, and each in Heads, a row that begins with it, by the yields of what stands behind.
func TestFirstIsTold(t *testing.T) {
	r := rand.New(rand.NewSource(14))
	for _, h := range shapes()[:5] {
		for range 400 / (h.names * h.names) {
			s := inOrder(r, h)
			got := tell(t, s)
			m := model{s}
			for i, first := range got.first {
				rows := m.fronts(i, got.yields)
				if len(rows) != len(first) {
					t.Fatalf("P708: name %d: %v, but rows %v, of %+v", i, first, rows, s)
				}
				for _, n := range first {
					if row := rows[n]; len(row) == 0 || row[0] != n || len(row) < 10 && !m.makesRow(i, row) {
						t.Fatalf("P708: name %d: %v does not begin with %d, of %+v", i, row, n, s)
					}
				}
			}
		}
	}
}

// fronts goes from a name to rows that begin with one terminal each: what is ahead is taken as nothing, what is behind as its yields.
func (m model) fronts(left int, yields [][]int) map[int][]int {
	null := m.byHeight(false)
	rows := map[int][]int{}
	behind := map[int][]int{left: nil} // by name: what stands behind it
	for list := []int{left}; len(list) > 0; list = list[1:] {
		for _, p := range m.s.Productions {
			if p.Left != list[0] {
				continue
			}
			for i, x := range p.Right {
				rest := append(m.withYields(p.Right[i+1:], yields), behind[p.Left]...)
				if n := m.number(x); x.Kind != api.SName && rows[n] == nil {
					rows[n] = append([]int{n}, rest...)
				}
				if _, seen := behind[x.N]; x.Kind == api.SName && !seen {
					behind[x.N] = rest
					list = append(list, x.N)
				}
				if x.Kind != api.SName || !null[x.N] {
					break
				}
			}
		}
	}
	return rows
}

// TestFormsAgree: whatever stands at the front, or behind a name, in short rows that are made of the start with end behind it, is told.
func TestFormsAgree(t *testing.T) {
	r := rand.New(rand.NewSource(15))
	for range 150 {
		s := inOrder(r, shape{1 + r.Intn(3), 1 + r.Intn(3), 2 + r.Intn(5), 3})
		got := tell(t, s)
		m := model{s}
		for form := range m.forms(6) {
			row := []rune(form)
			for i, x := range row[:len(row)-1] {
				a, b := int(x)-len(s.Lex)-2, int(row[i+1])
				if a >= 0 && b < len(s.Lex)+2 && !slices.Contains(got.follow[a], b) {
					t.Fatalf("P704: %d behind name %d in %v, of %+v", b, a, row, s)
				}
			}
			if n := int(row[0]); n < len(s.Lex)+1 && !slices.Contains(got.first[s.Start], n) {
				t.Fatalf("P703: %v begins with %d, of %+v", row, n, s)
			}
			if len(row) == 1 && !got.null[s.Start] {
				t.Fatalf("P702: the start makes nothing, of %+v", s)
			}
		}
	}
}

// forms are the rows of at most most symbols that are made of the start with end behind it by rows that are no longer.
func (m model) forms(most int) map[string]bool {
	begin := string([]rune{rune(m.number(name(m.s.Start))), rune(len(m.s.Lex) + 1)})
	seen := map[string]bool{begin: true}
	for list := []string{begin}; len(list) > 0 && len(seen) < 3000; list = list[1:] {
		row := []rune(list[0])
		for i, x := range row {
			for _, p := range m.s.Productions {
				if m.number(name(p.Left)) != int(x) || len(row)+len(p.Right) > most+1 {
					continue
				}
				then := slices.Clone(row[:i])
				for _, y := range p.Right {
					then = append(then, rune(m.number(y)))
				}
				if next := string(append(then, row[i+1:]...)); !seen[next] {
					seen[next] = true
					list = append(list, next)
				}
			}
		}
	}
	return seen
}

// TestOrderOfProductions is P709: in another order, and with some of them twice, productions say the same.
func TestOrderOfProductions(t *testing.T) {
	r := rand.New(rand.NewSource(16))
	for _, h := range shapes() {
		for range 1 + 300/(h.names*h.names) {
			s := inOrder(r, h)
			want := tell(t, s)
			row := []api.Sym{name(0), name(len(s.Names) - 1)}
			heads, _ := sets.Heads(s, row, []int{len(s.Lex) + 1})
			for range 4 {
				r.Shuffle(len(s.Productions), func(i, j int) {
					s.Productions[i], s.Productions[j] = s.Productions[j], s.Productions[i]
				})
				if len(s.Productions) < api.MaxProductions {
					s.Productions = append(s.Productions, s.Productions[r.Intn(len(s.Productions))])
				}
				if got := tell(t, s); !got.same(want) {
					t.Fatalf("P709: %+v, not %+v, of %+v", got, want, s)
				}
				wantHeads(t, s, row, []int{len(s.Lex) + 1}, heads...)
			}
		}
	}
}

// TestOrderOfFaults is P709: whether a spec is in order does not hang on the order of its productions.
func TestOrderOfFaults(t *testing.T) {
	r := rand.New(rand.NewSource(17))
	for range 5000 {
		s := random(r, shape{1 + r.Intn(4), r.Intn(4), 1 + r.Intn(8), 3}, r.Intn(100))
		before := sets.Check(s)
		r.Shuffle(len(s.Productions), func(i, j int) {
			s.Productions[i], s.Productions[j] = s.Productions[j], s.Productions[i]
		})
		after := sets.Check(s)
		if (before.Err == api.OK) != (after.Err == api.OK) {
			t.Fatalf("P709: %+v and %+v, of %+v", before, after, s)
		}
	}
}
