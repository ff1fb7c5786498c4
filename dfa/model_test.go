package dfa_test

import (
	"fmt"
	"math/rand"
	"slices"
	"testing"

	"graft/api"
	"graft/dfa"
	"graft/expr"
)

func rng(from, to int) api.Expr { return api.Expr{Kind: api.XRange, From: from, To: to} }

func seq(list ...api.Expr) api.Expr { return api.Expr{Kind: api.XSeq, List: list} }

func alt(list ...api.Expr) api.Expr { return api.Expr{Kind: api.XAlt, List: list} }

func rep(least, most int, e api.Expr) api.Expr {
	return api.Expr{Kind: api.XRepeat, Min: least, Max: most, List: []api.Expr{e}}
}

// lexOf makes rules of trees; every second one is trivia.
func lexOf(trees ...api.Expr) []api.LexRule {
	var lex []api.LexRule
	for i, e := range trees {
		lex = append(lex, api.LexRule{Name: fmt.Sprint("rule", i), Trivia: i%2 == 1, Expr: e})
	}
	return lex
}

// parsed makes rules of texts.
func parsed(t *testing.T, texts ...string) []api.LexRule {
	t.Helper()
	var trees []api.Expr
	for _, text := range texts {
		e, f := expr.Parse(text)
		if f.Err != api.OK {
			t.Fatalf("%s: %+v", text, f)
		}
		trees = append(trees, e)
	}
	return lexOf(trees...)
}

func built(t *testing.T, lex []api.LexRule) *dfa.Machine {
	t.Helper()
	m, at, e := dfa.Build(lex)
	if m == nil || at != 0 || e != api.OK {
		t.Fatalf("Build: %v %d %v", m != nil, at, e)
	}
	return m
}

func made(t *testing.T, texts ...string) *dfa.Machine {
	t.Helper()
	return built(t, parsed(t, texts...))
}

func texts(lex []api.LexRule) []string {
	var list []string
	for _, rule := range lex {
		text, _ := expr.Print(rule.Expr)
		list = append(list, text)
	}
	return list
}

// some is a tree of at most that depth, over the bytes a to c.
func some(d *rand.Rand, depth int) api.Expr {
	if depth == 1 || d.Intn(4) == 0 {
		from := 'a' + d.Intn(3)
		return rng(from, from+d.Intn('d'-from))
	}
	var list []api.Expr
	for range 2 + d.Intn(2) {
		list = append(list, some(d, depth-1))
	}
	switch d.Intn(8) {
	case 0, 1, 2:
		return seq(list...)
	case 3, 4:
		return alt(list...)
	case 5:
		return alt(list[0], seq())
	}
	least := d.Intn(3)
	most := least + d.Intn(3)
	if d.Intn(3) == 0 {
		most = -1
	}
	return rep(least, most, list[0])
}

// someLex is rules that Build takes but for their sets.
func someLex(d *rand.Rand, most int) []api.LexRule {
	var trees []api.Expr
	for n := d.Intn(most + 1); len(trees) < n; {
		if e := some(d, 1+d.Intn(5)); expr.Check(e) == api.OK && !expr.Empty(e) {
			trees = append(trees, e)
		}
	}
	return lexOf(trees...)
}

// ruleOf tells a row's rule as the chapter says it.
func ruleOf(lex []api.LexRule, row []byte) int {
	for i, rule := range lex {
		if is, _ := expr.Match(rule.Expr, row); is {
			return i
		}
	}
	return -1
}

// leads tells whether a row leads to a state.
func leads(lex []api.LexRule, row []byte) bool {
	for _, rule := range lex {
		if is, _ := expr.Live(rule.Expr, row); is {
			return true
		}
	}
	return len(row) == 0
}

// rows are those over some bytes, in their order, up to a length.
func rows(over string, most int) [][]byte {
	all := [][]byte{nil}
	for from, length := 0, 0; length < most; length++ {
		upto := len(all)
		for _, row := range all[from:upto] {
			for i := range over {
				all = append(all, append(slices.Clone(row), over[i]))
			}
		}
		from = upto
	}
	return all
}

// walked tells the state to which a row leads by Next.
func walked(m *dfa.Machine, row []byte) int {
	state := 0
	for _, b := range row {
		state = m.Next(state, int(b))
	}
	return state
}

// position is one of an unrolled pattern; its followers are the numbers of others.
type position struct {
	from, to  int
	followers []int
}

// unrolled holds the positions of rules, laid as the chapters say it.
type unrolled struct {
	positions []position
}

// ends are the positions with which something may begin, and end, and whether it may be nothing.
type ends struct {
	first, last []int
	empty       bool
}

func joined(a, b []int) []int { return append(slices.Clone(a), b...) }

func (u *unrolled) follow(a, b []int) {
	for _, p := range a {
		u.positions[p].followers = joined(u.positions[p].followers, b)
	}
}

// behind puts the one behind the other.
func (u *unrolled) behind(a, b ends) ends {
	u.follow(a.last, b.first)
	both := ends{first: a.first, last: b.last, empty: a.empty && b.empty}
	if a.empty {
		both.first = joined(a.first, b.first)
	}
	if b.empty {
		both.last = joined(b.last, a.last)
	}
	return both
}

func (u *unrolled) lay(e api.Expr) ends {
	switch e.Kind {
	case api.XRange:
		u.positions = append(u.positions, position{from: e.From, to: e.To})
		n := []int{len(u.positions) - 1}
		return ends{first: n, last: n}
	case api.XSeq:
		all := ends{empty: true}
		for _, part := range e.List {
			all = u.behind(all, u.lay(part))
		}
		return all
	case api.XAlt:
		var all ends
		for _, part := range e.List {
			x := u.lay(part)
			all = ends{joined(all.first, x.first), joined(all.last, x.last), all.empty || x.empty}
		}
		return all
	}
	if e.Max == -1 {
		return u.layWithoutEnd(e)
	}
	return u.layUpTo(e.List[0], e.Min, e.Max)
}

// layUpTo lays one copy, and behind it all later ones, which may be left out together.
func (u *unrolled) layUpTo(part api.Expr, least, most int) ends {
	if most == 0 {
		return ends{empty: true}
	}
	all := u.behind(u.lay(part), u.layUpTo(part, max(least-1, 0), most-1))
	all.empty = all.empty || least == 0
	return all
}

func (u *unrolled) layWithoutEnd(e api.Expr) ends {
	all := ends{empty: true}
	for range e.Min - 1 {
		all = u.behind(all, u.lay(e.List[0]))
	}
	last := u.lay(e.List[0])
	u.follow(last.last, last.first)
	last.empty = last.empty || e.Min == 0
	return u.behind(all, last)
}

// setsOf counts the sets of rules, byte by byte, and no further than one more than most.
func setsOf(lex []api.LexRule, most int) int {
	var u unrolled
	var first []int
	for _, rule := range lex {
		x := u.lay(rule.Expr)
		u.positions = append(u.positions, position{from: 1, to: 0})
		u.follow(x.last, []int{len(u.positions) - 1})
		first = joined(first, x.first)
	}
	slices.Sort(first)
	found := [][]int{slices.Compact(first)}
	known := map[string]bool{fmt.Sprint(found[0]): true}
	for at := 0; at < len(found) && len(found) <= most; at++ {
		for b := range 256 {
			var set []int
			for _, p := range found[at] {
				if u.positions[p].from <= b && b <= u.positions[p].to {
					set = joined(set, u.positions[p].followers)
				}
			}
			slices.Sort(set)
			set = slices.Compact(set)
			if key := fmt.Sprint(set); len(set) > 0 && !known[key] {
				known[key] = true
				found = append(found, set)
			}
		}
	}
	return min(len(found), most+1)
}

// unlike tells whether some row makes two states end in unlike rules: found round by round, for all states of two machines.
func unlike(a, b *dfa.Machine) [][]bool {
	is := make([][]bool, a.Size()+1)
	for x := range is {
		is[x] = make([]bool, b.Size()+1)
		for y := range is[x] {
			is[x][y] = a.Accept(x-1) != b.Accept(y-1)
		}
	}
	for more := true; more; {
		more = false
		for x := range is {
			for y := range is[x] {
				for c := 0; c < 256 && !is[x][y]; c++ {
					if is[a.Next(x-1, c)+1][b.Next(y-1, c)+1] {
						is[x][y], more = true, true
					}
				}
			}
		}
	}
	return is
}
