package sets_test

import (
	"math/rand"
	"slices"

	"graft/api"
)

// model says of a spec what the chapter says, by other means than the program: by the heights of trees, and by walks along what begins, ends and stands beside what.
type model struct {
	s api.Spec
}

// number is a symbol as one number: terminals as in the chapter, then the names.
func (m model) number(x api.Sym) int {
	switch x.Kind {
	case api.STerminal:
		return x.N
	case api.SError:
		return len(m.s.Lex)
	}
	return len(m.s.Lex) + 2 + x.N
}

// fault is what Check answers.
func (m model) fault() api.Fault {
	s := m.s
	if len(s.Lex) > 64 || len(s.Names) > 128 || len(s.Productions) > 512 {
		return api.Fault{Err: api.ErrLong}
	}
	for _, p := range s.Productions {
		if len(p.Right) > 16 {
			return api.Fault{Err: api.ErrLong}
		}
	}
	if s.Start < 0 || s.Start >= len(s.Names) {
		return api.Fault{Err: api.ErrIndex, At: -1}
	}
	for i, p := range s.Productions {
		if err := m.production(p); err != api.OK {
			return api.Fault{Err: err, At: i}
		}
	}
	if x, is := m.unreached(); is {
		return api.Fault{Err: api.ErrUnreached, At: x.N}
	}
	if at := slices.Index(m.byHeight(true), false); at >= 0 {
		return api.Fault{Err: api.ErrUnproductive, At: at}
	}
	sizes := m.emptySizes()
	for i, empty := range m.byHeight(false) {
		if empty && sizes[i] == 0 {
			return api.Fault{Err: api.ErrFull, At: i}
		}
	}
	return api.Fault{}
}

func (m model) production(p api.Production) api.Errno {
	if p.Left < 0 || p.Left >= len(m.s.Names) {
		return api.ErrIndex
	}
	for _, x := range p.Right {
		if err := m.symbol(x); err != api.OK {
			return err
		}
	}
	return api.OK
}

func (m model) symbol(x api.Sym) api.Errno {
	most := map[int]int{api.STerminal: len(m.s.Lex), api.SError: 1, api.SName: len(m.s.Names)}
	if x.N < 0 || x.N >= most[x.Kind] {
		return api.ErrIndex
	}
	if x.Kind == api.STerminal && m.s.Lex[x.N].Trivia {
		return api.ErrTrivia
	}
	return api.OK
}

// unreached is the first name that is not reached, else the first rule.
func (m model) unreached() (api.Sym, bool) {
	seen := map[int]bool{}
	var walk func(n int)
	walk = func(n int) {
		if seen[n] {
			return
		}
		seen[n] = true
		for _, p := range m.s.Productions {
			if m.number(name(p.Left)) == n {
				for _, x := range p.Right {
					walk(m.number(x))
				}
			}
		}
	}
	walk(m.number(name(m.s.Start)))
	for i := range m.s.Names {
		if !seen[m.number(name(i))] {
			return name(i), true
		}
	}
	for i, r := range m.s.Lex {
		if !r.Trivia && !seen[i] {
			return term(i), true
		}
	}
	return api.Sym{}, false
}

// byHeight says of each name whether it has a tree over terminals (or over nothing): of a height of at most the number of names, for no name need stand twice on a way down.
func (m model) byHeight(terminals bool) []bool {
	low := make([]bool, len(m.s.Names))
	for range m.s.Names {
		high := make([]bool, len(m.s.Names))
		for _, p := range m.s.Productions {
			all := true
			for _, x := range p.Right {
				if x.Kind == api.SName {
					all = all && low[x.N]
				} else {
					all = all && terminals
				}
			}
			high[p.Left] = high[p.Left] || all
		}
		low = high
	}
	return low
}

// emptySizes finds the least empty trees by rising sizes: of each name how many nodes, 0 for none of at most 256.
func (m model) emptySizes() []int {
	out := make([]int, len(m.s.Names))
	for size := 1; size <= 256; size++ {
		var found []int
		for _, p := range m.s.Productions {
			sum := 1
			for _, x := range p.Right {
				if x.Kind != api.SName || out[x.N] == 0 {
					sum = 1000
					break
				}
				sum += out[x.N]
			}
			if sum == size && out[p.Left] == 0 {
				found = append(found, p.Left)
			}
		}
		for _, a := range found {
			out[a] = size
		}
	}
	return out
}

// steps are the symbols that may stand at the front (or at the back) of a right side of each name, when what is ahead of them (behind them) is nothing.
func (m model) steps(back bool) map[int][]int {
	null := m.byHeight(false)
	out := map[int][]int{}
	for _, p := range m.s.Productions {
		right := slices.Clone(p.Right)
		if back {
			slices.Reverse(right)
		}
		for _, x := range right {
			left := m.number(name(p.Left))
			out[left] = append(out[left], m.number(x))
			if x.Kind != api.SName || !null[x.N] {
				break
			}
		}
	}
	return out
}

// from is all that can be come to by steps, none or more.
func from(steps map[int][]int, n int) map[int]bool {
	seen := map[int]bool{n: true}
	for list := []int{n}; len(list) > 0; list = list[1:] {
		for _, x := range steps[list[0]] {
			if !seen[x] {
				seen[x] = true
				list = append(list, x)
			}
		}
	}
	return seen
}

// terminalsOf are those of some symbols that are terminals, rising.
func (m model) terminalsOf(seen map[int]bool) []int {
	var out []int
	for n := range len(m.s.Lex) + 2 {
		if seen[n] {
			out = append(out, n)
		}
	}
	return out
}

func (m model) first() [][]int {
	steps := m.steps(false)
	var out [][]int
	for i := range m.s.Names {
		out = append(out, m.terminalsOf(from(steps, m.number(name(i)))))
	}
	return out
}

// follow goes by what stands side by side in right sides: behind the last part of the one stands the first part of the other.
func (m model) follow() [][]int {
	front, back, null := m.steps(false), m.steps(true), m.byHeight(false)
	behind := make([]map[int]bool, len(m.s.Names))
	for i := range behind {
		behind[i] = map[int]bool{}
	}
	beside := func(left int, rights map[int]bool) {
		for n := range from(back, left) {
			if i := n - len(m.s.Lex) - 2; i >= 0 {
				for x := range rights {
					behind[i][x] = true
				}
			}
		}
	}
	beside(m.number(name(m.s.Start)), map[int]bool{len(m.s.Lex) + 1: true})
	for _, p := range m.s.Productions {
		for i, x := range p.Right {
			for _, y := range p.Right[i+1:] {
				beside(m.number(x), from(front, m.number(y)))
				if y.Kind != api.SName || !null[y.N] {
					break
				}
			}
		}
	}
	var out [][]int
	for _, b := range behind {
		out = append(out, m.terminalsOf(b))
	}
	return out
}

// heads puts a name into the grammar that is that row alone.
func (m model) heads(row []api.Sym, next []int) []int {
	s := m.s
	s.Names = append(slices.Clone(s.Names), "H")
	s.Productions = append(slices.Clone(s.Productions), makes(len(s.Names)-1, row...))
	more := model{s}
	last := len(s.Names) - 1
	out := more.first()[last]
	if more.byHeight(false)[last] {
		out = append(slices.Clone(out), next...)
	}
	slices.Sort(out)
	return slices.Compact(out)
}

// makesRow asks whether a name makes a row of terminals, by the parts of the row that each name makes.
func (m model) makesRow(left int, row []int) bool {
	type part struct{ left, from, to int }
	done := map[part]bool{}
	ends := func(right []api.Sym, from int) map[int]bool {
		at := map[int]bool{from: true}
		for _, x := range right {
			then := map[int]bool{}
			for i := range at {
				if x.Kind != api.SName {
					if i < len(row) && row[i] == m.number(x) {
						then[i+1] = true
					}
					continue
				}
				for to := i; to <= len(row); to++ {
					if done[part{x.N, i, to}] {
						then[to] = true
					}
				}
			}
			at = then
		}
		return at
	}
	for grew := true; grew; {
		grew = false
		for _, p := range m.s.Productions {
			for i := range len(row) + 1 {
				for to := range ends(p.Right, i) {
					k := part{p.Left, i, to}
					grew = grew || !done[k]
					done[k] = true
				}
			}
		}
	}
	return done[part{left, 0, len(row)}]
}

// languages are, of each name, all rows of at most most terminals that it makes, as strings of bytes.
func (m model) languages(most int) []map[string]bool {
	out := make([]map[string]bool, len(m.s.Names))
	for i := range out {
		out[i] = map[string]bool{}
	}
	for grew := true; grew; {
		grew = false
		for _, p := range m.s.Productions {
			rows := map[string]bool{"": true}
			for _, x := range p.Right {
				parts := map[string]bool{string(rune(m.number(x))): true}
				if x.Kind == api.SName {
					parts = out[x.N]
				}
				then := map[string]bool{}
				for a := range rows {
					for b := range parts {
						if len(a)+len(b) <= most {
							then[a+b] = true
						}
					}
				}
				rows = then
			}
			for row := range rows {
				grew = grew || !out[p.Left][row]
				out[p.Left][row] = true
			}
		}
	}
	return out
}

// shape says how random specs are made.
type shape struct {
	names, rules, productions, right int
}

// random makes a spec of a shape, faulty or not: odd numbers come now and then.
func random(r *rand.Rand, h shape, odd int) api.Spec {
	s := api.Spec{Lex: make([]api.LexRule, h.rules), Names: make([]string, h.names), Start: r.Intn(h.names)}
	for i := range s.Lex {
		s.Lex[i].Trivia = r.Intn(4) == 0
	}
	if odd > 0 && r.Intn(10) == 0 {
		s.Start = r.Intn(h.names+2) - 1
	}
	for range h.productions {
		p := api.Production{Left: r.Intn(h.names)}
		if odd > 0 && r.Intn(odd) == 0 {
			p.Left = r.Intn(h.names+2) - 1
		}
		for range r.Intn(h.right + 1) {
			p.Right = append(p.Right, randomSymbol(r, s, odd))
		}
		s.Productions = append(s.Productions, p)
	}
	return s
}

func randomSymbol(r *rand.Rand, s api.Spec, odd int) api.Sym {
	if odd > 0 && r.Intn(odd) == 0 {
		if len(s.Lex) > 0 && r.Intn(2) == 0 {
			return term(r.Intn(len(s.Lex)))
		}
		return api.Sym{Kind: r.Intn(5), N: r.Intn(6) - 1}
	}
	if k := r.Intn(8); k > 3 {
		return name(r.Intn(len(s.Names)))
	} else if k > 0 && len(s.Lex) > 0 {
		if x := term(r.Intn(len(s.Lex))); !s.Lex[x.N].Trivia {
			return x
		}
	}
	return wrong()
}

// inOrder makes a spec of a shape and puts productions to it till it is in order.
func inOrder(r *rand.Rand, h shape) api.Spec {
	for {
		s := random(r, h, 0)
		f := model{s}.fault()
		for ; f.Err != api.OK && f.Err != api.ErrFull; f = (model{s}).fault() {
			s = mend(r, s, f)
		}
		if f.Err == api.OK {
			return s
		}
	}
}

// mend puts a production to a spec by which a fault goes away.
func mend(r *rand.Rand, s api.Spec, f api.Fault) api.Spec {
	p := makes(f.At)
	if x, is := (model{s}).unreached(); is {
		p = makes(s.Start, x)
	}
	if r.Intn(2) == 0 {
		p.Right = append(p.Right, wrong())
	}
	s.Productions = append(s.Productions, p)
	return s
}
