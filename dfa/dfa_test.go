package dfa_test

import (
	"bytes"
	"math/rand"
	"reflect"
	"slices"
	"strings"
	"sync"
	"testing"

	"graft/api"
	"graft/dfa"
	"graft/expr"
)

// refused asks Build for an error at a place, and nothing beside.
func refused(t *testing.T, name string, lex []api.LexRule, at int, err api.Errno) {
	t.Helper()
	if m, a, e := dfa.Build(lex); m != nil || a != at || e != err {
		t.Errorf("P301: %s: %v %d %v, not %d %v", name, m != nil, a, e, at, err)
	}
}

func nested(depth int) api.Expr {
	e := rng('a', 'a')
	for range depth - 1 {
		e = rep(1, 1, e)
	}
	return e
}

// endless holds itself.
func endless() api.Expr {
	list := make([]api.Expr, 2)
	list[0] = rng('a', 'a')
	list[1] = seq(list...)
	return seq(list...)
}

func TestBuildRefuses(t *testing.T) {
	good, empty := rng('a', 'a'), rep(0, -1, rng('a', 'a'))
	wrong := rep(2, 1, good)
	large := rep(1000, 1000, rep(1000, 1000, good))
	list := make([]api.Expr, 4096)
	for i := range list {
		list[i] = good
	}
	for _, c := range []struct {
		name  string
		trees []api.Expr
		at    int
		err   api.Errno
	}{
		{"empty", []api.Expr{empty}, 0, api.ErrEmpty},
		{"empty behind another", []api.Expr{good, seq()}, 1, api.ErrEmpty},
		{"no kind", []api.Expr{good, good, {}}, 2, api.ErrExpr},
		{"wrong times", []api.Expr{good, wrong}, 1, api.ErrExpr},
		{"positions", []api.Expr{good, good, good, large}, 3, api.ErrPositions},
		{"deep", []api.Expr{good, nested(65)}, 1, api.ErrNest},
		{"values", []api.Expr{good, seq(list...)}, 1, api.ErrLong},
		{"endless", []api.Expr{good, endless()}, 1, api.ErrLong},
		{"empty ahead of wrong", []api.Expr{empty, wrong}, 0, api.ErrEmpty},
		{"wrong ahead of empty", []api.Expr{wrong, empty}, 0, api.ErrExpr},
		{"wrong and empty", []api.Expr{good, rep(0, 2000, good)}, 1, api.ErrExpr},
		{"positions and empty", []api.Expr{good, rep(0, 1, large)}, 1, api.ErrPositions},
	} {
		refused(t, c.name, lexOf(c.trees...), c.at, c.err)
	}
}

func TestBuildTakesManyRules(t *testing.T) {
	trees := slices.Repeat([]api.Expr{rng('a', 'a')}, api.MaxLex)
	m := built(t, lexOf(trees...))
	if m.Size() != 2 || m.Sets() != 2 || m.Accept(1) != 0 {
		t.Errorf("P301: %d %d %d", m.Size(), m.Sets(), m.Accept(1))
	}
	trees[api.MaxLex-1] = rng('b', 'b')
	if m := built(t, lexOf(trees...)); m.Accept(2) != api.MaxLex-1 {
		t.Errorf("P303: the last rule: %d", m.Accept(2))
	}
	refused(t, "65 rules", lexOf(append(trees, rng('c', 'c'))...), 0, api.ErrLong)
	refused(t, "65 rules, the last wrong", lexOf(append(trees, api.Expr{})...), 0, api.ErrLong)
	trees[1] = api.Expr{}
	refused(t, "65 rules, the second wrong", lexOf(append(trees, rng('c', 'c'))...), 0, api.ErrLong)
}

func TestSetsAreBounded(t *testing.T) {
	for _, c := range []struct {
		texts []string
		sets  int
		size  int
	}{
		{[]string{"(a{1000}){2}a{47}"}, 2048, 2048},
		{[]string{"(a{1000}){2}a{48}"}, 0, 0},
		{[]string{"(a|b)*a(a|b){10}"}, 2048, 2048},
		{[]string{"(a|b)*a(a|b){11}"}, 0, 0},
		{[]string{"a{1000}", "b{1000}", "c{47}"}, 2048, 2048},
		{[]string{"a{1000}", "b{1000}", "c{48}"}, 0, 0},
		{[]string{"a{1000}", "(a{500}){2}"}, 1001, 1001},
		{[]string{"(b?){1000}x", "(a?){999}x"}, 2003, 2002},
		{[]string{".", "(.{1000}){4}"}, 0, 0},
		{[]string{"((aaaa)*){1000}b"}, 5, 5},
		{[]string{"a.{0,1000}(.{2})+"}, 1002, 4},
	} {
		if c.sets == 0 {
			refused(t, strings.Join(c.texts, " "), parsed(t, c.texts...), 0, api.ErrSets)
			continue
		}
		if m := made(t, c.texts...); m.Sets() != c.sets || m.Size() != c.size {
			t.Errorf("P302: %v: %d sets, %d states", c.texts, m.Sets(), m.Size())
		}
	}
	refused(t, "sets, but an empty one behind", parsed(t, "(a|b)*a(a|b){11}", "a", "b?"), 2, api.ErrEmpty)
}

// TestUnrolling: patterns that cannot be unrolled as they stand, or that have next to nothing in many copies.
func TestUnrolling(t *testing.T) {
	stars, options := rng('a', 'a'), rng('a', 'a')
	nothing, none := seq(), rep(0, 0, rng('a', 'a'))
	for range 20 {
		stars = rep(0, -1, alt(stars, seq()))
		options = rep(0, 1, options)
		nothing, none = rep(1000, 1000, nothing), rep(1000, 1000, none)
	}
	for range 18 {
		stars, options = rep(1, -1, stars), rep(1, 1, options)
	}
	b := rng('b', 'b')
	for _, c := range []struct {
		name string
		e    api.Expr
		sets int
	}{
		{"stars", seq(rep(1000, 1000, rep(4, 4, stars)), b), 2},
		{"options", seq(rep(1000, 1000, options), b), 1002},
		{"nothing", seq(nothing, b, none, nothing), 2},
		{"nothing or nothing", alt(seq(nothing, b), seq(alt(nothing, seq(), none), b)), 2},
	} {
		if m := built(t, lexOf(slices.Repeat([]api.Expr{c.e}, api.MaxLex)...)); m.Sets() != c.sets {
			t.Errorf("P302: %s: %d sets", c.name, m.Sets())
		}
	}
}

func TestNamesAndTrivia(t *testing.T) {
	lex := parsed(t, "a+", "b", "ab")
	m := built(t, lex)
	for i := range lex {
		lex[i].Name, lex[i].Trivia = strings.Repeat("x", 1000*i), !lex[i].Trivia
	}
	n := built(t, lex)
	if !reflect.DeepEqual(m, n) {
		t.Error("P302: names or trivia are looked at")
	}
}

func arcs(m *dfa.Machine, state int) []api.Arc { return slices.Collect(m.Rows(state)) }

func TestExampleStates(t *testing.T) {
	m := made(t, "[0-9]+", `\+`, "[a-z]+", "if", " +")
	words, accepts := []string{"", " ", "+", "0", "a"}, []int{-1, 4, 1, 0, 2}
	if m.Size() != 5 {
		t.Fatalf("P302: %d states", m.Size())
	}
	for state, word := range words {
		if string(m.Word(state)) != word || m.Accept(state) != accepts[state] {
			t.Errorf("P303: %d: %q %d", state, m.Word(state), m.Accept(state))
		}
	}
	want := []api.Arc{{From: 32, To: 32, State: 1}, {From: 43, To: 43, State: 2}, {From: 48, To: 57, State: 3}, {From: 97, To: 122, State: 4}}
	if got := arcs(m, 0); !slices.Equal(got, want) {
		t.Errorf("P304: %v", got)
	}
	if m.Next(3, '7') != 3 || m.Next(3, 'x') != -1 || m.Next(0, 'i') != 4 {
		t.Error("P303: Next")
	}
	m = made(t, "[0-9]+", `\+`, "if", "[a-z]+", " +")
	if m.Size() != 7 || string(m.Word(5)) != "i" || string(m.Word(6)) != "if" || m.Accept(5) != 3 || m.Accept(6) != 2 {
		t.Errorf("P302: if ahead of word: %d %q %q", m.Size(), m.Word(5), m.Word(6))
	}
	m = built(t, nil)
	if m.Size() != 1 || m.Sets() != 1 || m.Accept(0) != -1 || m.Next(0, 'a') != -1 || len(m.Word(0)) != 0 || len(arcs(m, 0)) != 0 {
		t.Error("P302: no rules")
	}
}

func TestWhatIsNoStateOrByte(t *testing.T) {
	m := made(t, ".+")
	for _, state := range []int{-1 << 63, -2, -1, 2, 3, 1 << 16, 1 << 32, 1<<63 - 1} {
		if m.Next(state, 'a') != -1 || m.Accept(state) != -1 || len(m.Word(state)) != 0 || len(arcs(m, state)) != 0 {
			t.Errorf("P303: state %d", state)
		}
	}
	for _, b := range []int{-1 << 63, -256, -1, 256, 256 + 'a', 1 << 32, 1<<63 - 1} {
		if m.Next(0, b) != -1 || m.Next(1, b) != -1 {
			t.Errorf("P303: byte %d", b)
		}
	}
	if m.Next(0, 0) != 1 || m.Next(1, 255) != 1 || m.Accept(1) != 0 || string(m.Word(1)) != "\x00" {
		t.Error("P303: the first and the last byte")
	}
}

func TestArcs(t *testing.T) {
	for _, c := range []struct {
		texts []string
		state int
		want  []api.Arc
	}{
		{[]string{"."}, 0, []api.Arc{{From: 0, To: 255, State: 1}}},
		{[]string{"."}, 1, nil},
		{[]string{`[\x00]a`, `\xffa`}, 0, []api.Arc{{From: 0, To: 0, State: 1}, {From: 255, To: 255, State: 2}}},
		{[]string{`\x00|\xff`}, 0, []api.Arc{{From: 0, To: 0, State: 1}, {From: 255, To: 255, State: 1}}},
		{[]string{"[a-c]|[d-f]|[e-k]"}, 0, []api.Arc{{From: 'a', To: 'k', State: 1}}},
		{[]string{"[a-cx]", "[d-z]"}, 0, []api.Arc{{From: 'a', To: 'c', State: 1}, {From: 'd', To: 'w', State: 2}, {From: 'x', To: 'x', State: 1}, {From: 'y', To: 'z', State: 2}}},
		{[]string{"(ab)*c"}, 1, []api.Arc{{From: 'b', To: 'b', State: 0}}},
		{[]string{"[ab]*c", "."}, 0, []api.Arc{{From: 0, To: 96, State: 1}, {From: 97, To: 98, State: 2}, {From: 99, To: 99, State: 3}, {From: 100, To: 255, State: 1}}},
	} {
		if got := arcs(made(t, c.texts...), c.state); !slices.Equal(got, c.want) {
			t.Errorf("P304: %v: %v", c.texts, got)
		}
	}
}

func TestArcsAreAnIterator(t *testing.T) {
	m := made(t, "[aceg]x?")
	rows := m.Rows(0)
	all := slices.Collect(rows)
	if len(all) != 4 {
		t.Fatalf("P304: %v", all)
	}
	for stop := range all {
		var got []api.Arc
		for arc := range rows {
			got = append(got, arc)
			if len(got) == stop+1 {
				break
			}
		}
		if !slices.Equal(got, all[:stop+1]) {
			t.Errorf("P304: left behind %d: %v", stop+1, got)
		}
	}
	var pairs int
	for one := range rows {
		var inner []api.Arc
		for other := range rows {
			inner = append(inner, other)
		}
		if !slices.Equal(inner, all) || one != all[pairs] {
			t.Errorf("P304: one within the other: %v %v", one, inner)
		}
		pairs++
	}
	if pairs != 4 {
		t.Errorf("P304: %d arcs outside", pairs)
	}
}

func TestExampleLongest(t *testing.T) {
	usual := []string{"[0-9]+", `\+`, "[a-z]+", "if", " +"}
	quoted := []string{`"[^"]*"`, `"`}
	for _, c := range []struct {
		texts           []string
		b               string
		rule, n, looked int
	}{
		{usual, "12+", 0, 2, 3}, {usual, "12", 0, 2, 3}, {usual, "+", 1, 1, 2}, {usual, "#", -1, 0, 1}, {usual, "", -1, 0, 1},
		{usual, "if ", 2, 2, 3}, {usual, "#12", -1, 0, 1},
		{[]string{"a(bc)*"}, "abcb", 0, 3, 5}, {[]string{"a(bc)*"}, "abd", 0, 1, 3}, {[]string{"a(bc)*"}, "b", -1, 0, 1},
		{[]string{"ab", "abcd"}, "abce", 0, 2, 4}, {[]string{"abcd", "ab"}, "abce", 1, 2, 4}, {[]string{"abc"}, "ab", -1, 0, 3}, {[]string{"abc"}, "abd", -1, 0, 3},
		{[]string{"(ab)*c"}, "abab", -1, 0, 5}, {[]string{"(ab)*c"}, "ababc", 0, 5, 6}, {[]string{"(ab)*c"}, "ababcc", 0, 5, 6},
		{quoted, `"` + strings.Repeat("x", 1<<20), 1, 1, 1<<20 + 2}, {quoted, `"` + strings.Repeat("x", 1<<20) + `"`, 0, 1<<20 + 2, 1<<20 + 3},
		{nil, "", -1, 0, 1}, {nil, "a", -1, 0, 1},
	} {
		rule, n, looked := made(t, c.texts...).Longest([]byte(c.b))
		if rule != c.rule || n != c.n || looked != c.looked {
			t.Errorf("P305: %v %.9q: %d %d %d", c.texts, c.b, rule, n, looked)
		}
	}
}

func TestApart(t *testing.T) {
	for _, c := range []struct {
		a, b  []string
		row   string
		apart bool
	}{
		{[]string{"a|b"}, []string{"[ab]"}, "", false},
		{[]string{"a*b"}, []string{"a+b"}, "b", true},
		{nil, nil, "", false},
		{nil, []string{"ab|b"}, "b", true},
		{[]string{"a", "b"}, []string{"b", "a"}, "a", true},
		{[]string{"c", "[ab]"}, []string{"c", "[bc]"}, "a", true},
		{[]string{"a", "a|b"}, []string{"a", "b"}, "", false},
		{[]string{"a", "bbb"}, []string{"aa?", "bbb|b|ab"}, "b", true},
		{[]string{"(aa)*b", "a(aa)*c"}, []string{"(aa)*b", "a(aa)*[cd]"}, "ad", true},
		{[]string{"(ab)*c"}, []string{"(ab){0,9}c"}, strings.Repeat("ab", 10) + "c", true},
		{[]string{"x[0-9]"}, []string{"x[0-8]"}, "x9", true},
		{[]string{`x\xff`}, []string{`x[\xfe-\xff]`}, "x\xfe", true},
		{[]string{`\x00*a`}, []string{"a"}, "\x00a", true},
		{[]string{`[ab]|\xff`}, []string{"[ab]"}, "\xff", true},
		{[]string{`[ab]|\x00`}, []string{"[ab]"}, "\x00", true},
		{[]string{"(a{1000}){2}a{40}"}, []string{"a+"}, "a", true},
		{[]string{"(a{1000}){2}"}, []string{"(a{1000}){2}a"}, strings.Repeat("a", 2000), true},
		{[]string{"((a{44}){44})+"}, []string{"((a{45}){43})+"}, strings.Repeat("a", 45*43), true},
	} {
		x, y := made(t, c.a...), made(t, c.b...)
		for _, p := range [][2]*dfa.Machine{{x, y}, {y, x}} {
			if row, apart := dfa.Apart(p[0], p[1]); apart != c.apart || string(row) != c.row {
				t.Errorf("P306: %v %v: %q %v", c.a, c.b, row, apart)
			}
		}
		if row, apart := dfa.Apart(x, x); apart || len(row) != 0 {
			t.Errorf("P306: %v and itself: %q", c.a, row)
		}
	}
}

// TestApartOfLongRounds: the machines go in rounds of lengths without a common factor, so the row is about as long as their product.
func TestApartOfLongRounds(t *testing.T) {
	x, y := made(t, "(a{40})*b"), made(t, "(a{41})*b")
	if row, apart := dfa.Apart(x, y); !apart || string(row) != strings.Repeat("a", 40)+"b" {
		t.Errorf("P306: %q", row)
	}
	x, y = made(t, "(a{40})+", "(a{41})+"), made(t, "(a{40})+", "(a{41})+|((a{40}){41})+b")
	if row, apart := dfa.Apart(x, y); !apart || string(row) != strings.Repeat("a", 1640)+"b" {
		t.Errorf("P306: %d bytes", len(row))
	}
}

// TestStatesOfSome holds machines of some rules against the rows, one by one: P302 to P305, P307, P309, P310.
func TestStatesOfSome(t *testing.T) {
	d := rand.New(rand.NewSource(3))
	all := rows("abcd", 5)
	for range 100 {
		lex := someLex(d, 4)
		m := built(t, lex)
		seen := map[int]bool{}
		for _, row := range all {
			state := walked(m, row)
			if is := leads(lex, row); is != (state >= 0) || state >= m.Size() {
				t.Fatalf("P307: %q: %q leads to %d", texts(lex), row, state)
			}
			if m.Accept(state) != ruleOf(lex, row) {
				t.Fatalf("P307: %q: %q has the rule %d", texts(lex), row, m.Accept(state))
			}
			if state >= 0 && !seen[state] {
				if state != len(seen) || !bytes.Equal(m.Word(state), row) {
					t.Fatalf("P302: %q: %q comes ahead of %q, state %d", texts(lex), row, m.Word(state), state)
				}
				seen[state] = true
			}
		}
		checkShape(t, lex, m)
	}
}

// checkShape asks that all states are reached by their words and told apart, and that arcs tell what Next tells.
func checkShape(t *testing.T, lex []api.LexRule, m *dfa.Machine) {
	t.Helper()
	if m.Size() > m.Sets() {
		t.Fatalf("P309: %q: %d states, %d sets", texts(lex), m.Size(), m.Sets())
	}
	for x, row := range unlike(m, m) {
		for y, is := range row {
			if is != (x != y) && len(lex) > 0 {
				t.Fatalf("P302: %q: the states %d and %d", texts(lex), x-1, y-1)
			}
		}
	}
	for state := range m.Size() {
		if walked(m, m.Word(state)) != state {
			t.Fatalf("P303: %q: %q does not lead to %d", texts(lex), m.Word(state), state)
		}
		if state > 0 && !inOrder(m.Word(state-1), m.Word(state)) {
			t.Fatalf("P302: %q: %q is ahead of %q", texts(lex), m.Word(state-1), m.Word(state))
		}
		var byNext []api.Arc
		for b := range 256 {
			to := m.Next(state, b)
			last := len(byNext) - 1
			if last >= 0 && byNext[last].To == b-1 && byNext[last].State == to {
				byNext[last].To = b
			} else if to >= 0 {
				byNext = append(byNext, api.Arc{From: b, To: b, State: to})
			}
		}
		if !slices.Equal(arcs(m, state), byNext) {
			t.Fatalf("P304: %q: %d: %v", texts(lex), state, arcs(m, state))
		}
	}
}

func inOrder(a, b []byte) bool {
	return len(a) < len(b) || len(a) == len(b) && bytes.Compare(a, b) < 0
}

func TestSetsOfSome(t *testing.T) {
	d := rand.New(rand.NewSource(4))
	for range 1500 {
		lex := someLex(d, 5)
		m, at, e := dfa.Build(lex)
		want := setsOf(lex, api.MaxSets)
		if want > api.MaxSets {
			if m != nil || at != 0 || e != api.ErrSets {
				t.Fatalf("P301: %q: %d %v", texts(lex), at, e)
			}
		} else if m == nil || m.Sets() != want {
			t.Fatalf("P302: %q: %v, not %d sets", texts(lex), e, want)
		}
	}
}

// longest tells what P305 says, front by front.
func longest(lex []api.LexRule, b []byte) (rule, n, looked int) {
	rule, looked = -1, len(b)+1
	for length := 1; length <= len(b); length++ {
		if r := ruleOf(lex, b[:length]); r >= 0 {
			rule, n = r, length
		}
		if looked > len(b) && !leads(lex, b[:length]) {
			looked = length
		}
	}
	return rule, n, looked
}

func TestLongestOfSome(t *testing.T) {
	d := rand.New(rand.NewSource(5))
	for range 400 {
		lex := someLex(d, 4)
		m := built(t, lex)
		for range 20 {
			b := make([]byte, d.Intn(12))
			for i := range b {
				b[i] = "aaabbbcccd"[d.Intn(10)]
			}
			kept := slices.Clone(b)
			rule, n, looked := m.Longest(b)
			wantRule, wantN, wantLooked := longest(lex, b)
			if rule != wantRule || n != wantN || looked != wantLooked || !bytes.Equal(b, kept) {
				t.Fatalf("P305: %q %q: %d %d %d", texts(lex), b, rule, n, looked)
			}
			if looked < n+1 || looked > len(b)+1 {
				t.Fatalf("P310: %q %q: %d %d", texts(lex), b, n, looked)
			}
			for i := looked; i < len(b); i++ {
				b[i] = byte(d.Intn(256))
			}
			if r, k, l := m.Longest(b); r != rule || k != n || l != looked {
				t.Fatalf("P310: %q %q: %d %d %d", texts(lex), b, r, k, l)
			}
		}
	}
}

// sameTables tells whether two machines have the same Size, Next and Accept.
func sameTables(a, b *dfa.Machine) bool {
	if a.Size() != b.Size() {
		return false
	}
	for state := range a.Size() {
		if a.Accept(state) != b.Accept(state) || !slices.Equal(arcs(a, state), arcs(b, state)) {
			return false
		}
	}
	return true
}

func TestApartOfSome(t *testing.T) {
	d := rand.New(rand.NewSource(6))
	all := rows("abcd", 5)
	equal := 0
	for range 600 {
		x, y := someLex(d, 2), someLex(d, 2)
		a, b := built(t, x), built(t, y)
		row, apart := dfa.Apart(a, b)
		if is := unlike(a, b)[1][1]; is != apart || apart == sameTables(a, b) {
			t.Fatalf("P308: %q %q: %v", texts(x), texts(y), apart)
		}
		if !apart {
			equal++
			continue
		}
		if ruleOf(x, row) == ruleOf(y, row) {
			t.Fatalf("P306: %q %q: %q", texts(x), texts(y), row)
		}
		for _, r := range all {
			if !inOrder(r, row) {
				break
			}
			if ruleOf(x, r) != ruleOf(y, r) {
				t.Fatalf("P306: %q %q: %q is ahead of %q", texts(x), texts(y), r, row)
			}
		}
	}
	if equal < 10 {
		t.Errorf("only %d of the machines were alike", equal)
	}
}

// otherwise is a pattern that matches the same rows, written in another way.
func otherwise(d *rand.Rand, e api.Expr) api.Expr {
	list := make([]api.Expr, len(e.List))
	for i, part := range e.List {
		list[i] = otherwise(d, part)
	}
	e.List = list
	switch {
	case e.Kind == api.XRange && e.From < e.To:
		cut := e.From + d.Intn(e.To-e.From)
		return alt(rng(cut+1, e.To), rng(e.From, cut))
	case e.Kind == api.XAlt:
		slices.Reverse(e.List)
		return alt(e, e.List[0])
	case e.Kind == api.XRepeat && e.Min > 0 && e.Max == -1:
		return seq(rep(0, -1, list[0]), rep(e.Min, e.Min, list[0]))
	case e.Kind == api.XRepeat && e.Max > 0:
		return seq(rep(e.Min, e.Min, list[0]), rep(e.Max-e.Min, e.Max-e.Min, alt(seq(), list[0])))
	}
	return e
}

func TestHowRulesAreWritten(t *testing.T) {
	d := rand.New(rand.NewSource(7))
	more := 0
	for range 400 {
		lex := someLex(d, 3)
		other := slices.Clone(lex)
		for i := range other {
			other[i].Expr = otherwise(d, other[i].Expr)
		}
		a := built(t, lex)
		b, _, err := dfa.Build(other)
		if err == api.ErrSets {
			continue
		}
		if row, apart := dfa.Apart(a, b); apart || len(row) != 0 || !sameTables(a, b) {
			t.Fatalf("P308: %q %q: %q %v", texts(lex), texts(other), row, apart)
		}
		if a.Sets() != b.Sets() {
			more++
		}
	}
	if more == 0 {
		t.Error("no pattern has other sets when it is written otherwise")
	}
}

func TestOwnMemory(t *testing.T) {
	lex := parsed(t, "ab", "ac|d{2,3}")
	m := built(t, lex)
	other := built(t, parsed(t, "ab", "ac|d{2,3}"))
	if !reflect.DeepEqual(lex, parsed(t, "ab", "ac|d{2,3}")) {
		t.Error("P2: the rules are changed")
	}
	lex[0].Expr.List[0].From = 'x'
	lex[1] = api.LexRule{}
	if !sameTables(m, other) {
		t.Error("P2: the rules are kept")
	}
	word := m.Word(3)
	for i := range word[:cap(word)] {
		word[:cap(word)][i] = 'z'
	}
	if string(m.Word(3)) != "ab" || m.Next(1, 'b') != 3 {
		t.Errorf("P2: %q", m.Word(3))
	}
	row, _ := dfa.Apart(m, built(t, nil))
	row[0] = 'z'
	if row, _ := dfa.Apart(m, built(t, nil)); string(row) != "ab" {
		t.Errorf("P2: %q", row)
	}
}

// TestSharedTrees: a part may hang in a tree at many places, and lists may have spare room.
func TestSharedTrees(t *testing.T) {
	part := seq(rng('a', 'a'), rng('b', 'b'))
	list := make([]api.Expr, 2, 4)
	list[0], list[1] = part, part
	spare := list[:4]
	spare[2], spare[3] = rng('x', 'x'), rng('y', 'y')
	lex := lexOf(seq(list...), alt(list...), rep(2, -1, alt(list...)))
	lex[1].Expr.List = list
	m := built(t, lex)
	if !sameTables(m, made(t, "abab", "ab", "(ab){2,}")) {
		t.Error("P302: shared parts")
	}
	if spare[2].From != 'x' || spare[3].From != 'y' || !reflect.DeepEqual(list[0], part) {
		t.Error("P2: spare room")
	}
}

func TestManyAtOnce(t *testing.T) {
	m, other := made(t, "[a-z]+", "if", `"[^"]*"`), made(t, "[a-z]+", "if", `"[^"]+"`)
	var group sync.WaitGroup
	for range 8 {
		group.Go(func() {
			for range 50 {
				rule, n, looked := m.Longest([]byte(`"abc"x`))
				row, apart := dfa.Apart(m, other)
				if rule != 2 || n != 5 || looked != 6 || string(row) != `""` || !apart || len(arcs(m, 0)) != 2 || string(m.Word(1)) != `"` {
					t.Error("P3: another answer")
				}
			}
		})
	}
	group.Wait()
}

func TestBuildIsRepeatable(t *testing.T) {
	d := rand.New(rand.NewSource(8))
	for range 50 {
		lex := someLex(d, 4)
		if a, b := built(t, lex), built(t, lex); !reflect.DeepEqual(a, b) {
			t.Fatalf("P3: %q", texts(lex))
		}
	}
}

// TestAllBytes: rows over all bytes, with wide and narrow ranges, against the patterns.
func TestAllBytes(t *testing.T) {
	d := rand.New(rand.NewSource(9))
	for range 60 {
		var trees []api.Expr
		for range 1 + d.Intn(5) {
			from := d.Intn(256)
			wide := rng(from, from+d.Intn(256-from))
			from = d.Intn(256)
			trees = append(trees, seq(wide, rep(0, 2, rng(from, from+d.Intn(256-from)))))
		}
		lex := lexOf(trees...)
		m := built(t, lex)
		if want := setsOf(lex, api.MaxSets); m.Sets() != want {
			t.Fatalf("P302: %q: %d sets, not %d", texts(lex), m.Sets(), want)
		}
		checkShape(t, lex, m)
		for b := range 256 {
			for _, row := range [][]byte{{byte(b)}, {byte(b), byte(d.Intn(256))}, {byte(d.Intn(256)), byte(b), byte(d.Intn(256))}} {
				if state := walked(m, row); m.Accept(state) != ruleOf(lex, row) || leads(lex, row) != (state >= 0) {
					t.Fatalf("P307: %q: %q: %d", texts(lex), row, state)
				}
			}
		}
	}
	for _, text := range []string{`\x00`, `\xff`, `[\x00-\xfe]`, `[\x01-\xff]`} {
		lex := parsed(t, text, "a")
		m := built(t, lex)
		for b := range 256 {
			is, _ := expr.Match(lex[0].Expr, []byte{byte(b)})
			if is != (m.Accept(m.Next(0, b)) == 0) {
				t.Errorf("P303: %s: %d", text, b)
			}
		}
	}
}
