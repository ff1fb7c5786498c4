package spec_test

import (
	"fmt"
	"math/rand"
	"regexp"
	"slices"
	"strings"

	"graft/api"
	"graft/expr"
)

var (
	wholeWord = regexp.MustCompile(`^[A-Za-z_][A-Za-z_0-9]{0,63}$`)
	stated    = regexp.MustCompile(`^(?:token|skip|start|error)$`)
)

// modelCheck is what Check answers: all faults are listed, and the first one counts.
func modelCheck(s api.Spec) api.Fault {
	var all []api.Fault
	put := func(is bool, err api.Errno, at int, name string) {
		if is {
			all = append(all, api.Fault{Err: err, At: at, Name: name})
		}
	}
	put(len(s.Lex) > 64, api.ErrLong, 0, "lex")
	put(len(s.Names) > 128, api.ErrLong, 0, "names")
	put(len(s.Productions) > 512, api.ErrLong, 0, "productions")
	for i, p := range s.Productions {
		put(len(p.Right) > 16, api.ErrLong, i, "right")
	}
	var ahead []string
	names := func(i int, name, list string) {
		put(!wholeWord.MatchString(name) || stated.MatchString(name), api.ErrPrint, i, list)
		put(slices.Contains(ahead, name), api.ErrTwice, i, list)
		ahead = append(ahead, name)
	}
	for i, r := range s.Lex {
		names(i, r.Name, "lex")
		_, err := expr.Print(r.Expr)
		put(err != api.OK, err, i, "lex")
	}
	for i, name := range s.Names {
		names(i, name, "names")
	}
	put(s.Start < 0 || s.Start >= len(s.Names), api.ErrStart, 0, "start")
	before := -1
	for i, p := range s.Productions {
		put(p.Left < 0 || p.Left >= len(s.Names), api.ErrIndex, i, "productions")
		put(p.Left != before && p.Left-1 != before, api.ErrPrint, i, "productions")
		before = p.Left
		for _, x := range p.Right {
			n := map[int]int{api.STerminal: len(s.Lex), api.SError: 1, api.SName: len(s.Names)}[x.Kind]
			put(x.N < 0 || x.N >= n, api.ErrIndex, i, "productions")
		}
	}
	put(len(s.Productions) == 0 || before+1 != len(s.Names), api.ErrPrint, len(s.Productions), "productions")
	if len(all) == 0 {
		put(len(modelText(s)) > 65536, api.ErrLong, 0, "text")
	}
	return slices.Concat(all, []api.Fault{{}})[0]
}

// modelText is what Print answers of a spec that is in order: each name gathers its productions from all of them.
func modelText(s api.Spec) string {
	var out []string
	for _, r := range s.Lex {
		pattern, _ := expr.Print(r.Expr)
		out = append(out, fmt.Sprintf("%s %s = /%s/;\n", map[bool]string{true: "skip", false: "token"}[r.Trivia], r.Name, pattern))
	}
	out = append(out, fmt.Sprintf("start %s;\n", s.Names[s.Start]))
	for i, name := range s.Names {
		var sides []string
		for _, p := range s.Productions {
			if p.Left == i {
				sides = append(sides, modelSide(s, p.Right))
			}
		}
		out = append(out, fmt.Sprintf("%s =%s;\n", name, strings.Join(sides, " |")))
	}
	return strings.Join(out, "")
}

func modelSide(s api.Spec, right []api.Sym) string {
	side := ""
	for _, x := range right {
		switch x.Kind {
		case api.STerminal:
			side += " " + s.Lex[x.N].Name
		case api.SError:
			side += " error"
		case api.SName:
			side += " " + s.Names[x.N]
		}
	}
	return side
}

// somePattern is a right one, of not many values.
func somePattern(d *rand.Rand, deep int) api.Expr {
	from := d.Intn(256)
	one := api.Expr{Kind: api.XRange, From: from, To: from + d.Intn(1+d.Intn(256-from))}
	parts := func(n int) []api.Expr {
		var list []api.Expr
		for range n {
			list = append(list, somePattern(d, deep-1))
		}
		return list
	}
	switch k := d.Intn(8); {
	case deep == 0 || k < 3:
		return one
	case k < 5:
		return api.Expr{Kind: api.XSeq, List: parts([]int{0, 2, 3}[d.Intn(3)])}
	case k < 7:
		return api.Expr{Kind: api.XAlt, List: parts(2 + d.Intn(2))}
	}
	least := d.Intn(3)
	return api.Expr{Kind: api.XRepeat, Min: least, Max: []int{-1, least, least + 1}[d.Intn(3)], List: parts(1)}
}

// someSpec is one that has a text.
func someSpec(d *rand.Rand) api.Spec {
	var s api.Spec
	pool := []string{"a", "b", "B", "_", "end", "tokens", "Error", "x9_", "_0", "lex", "names", "Z", strings.Repeat("q", 63), strings.Repeat("q", 64)}
	d.Shuffle(len(pool), func(i, j int) { pool[i], pool[j] = pool[j], pool[i] })
	for range d.Intn(5) {
		s.Lex = append(s.Lex, api.LexRule{Name: pool[0], Trivia: d.Intn(2) == 0, Expr: somePattern(d, 3)})
		pool = pool[1:]
	}
	s.Names = slices.Clone(pool[:1+d.Intn(4)])
	s.Start = d.Intn(len(s.Names))
	for left := range s.Names {
		for range 1 + d.Intn(3) {
			p := api.Production{Left: left}
			for range d.Intn(4) {
				p.Right = append(p.Right, someSym(d, s))
			}
			s.Productions = append(s.Productions, p)
		}
	}
	return s
}

func someSym(d *rand.Rand, s api.Spec) api.Sym {
	switch k := d.Intn(3); {
	case k == 0 && len(s.Lex) > 0:
		return term(d.Intn(len(s.Lex)))
	case k == 1:
		return fails
	}
	return name(d.Intn(len(s.Names)))
}

// turned is a spec with one thing changed, perhaps to what it was.
func turned(d *rand.Rand, s api.Spec) api.Spec {
	s = copied(s)
	text := []string{"", "a", "b", "B", "_", "end", "token", "skip", "start", "error", "a b", "1", "é", "a\n", strings.Repeat("q", 64), strings.Repeat("q", 65), "a-"}[d.Intn(17)]
	number := d.Intn(8) - 1
	switch k := d.Intn(10); {
	case k == 0 && len(s.Lex) > 0:
		s.Lex[d.Intn(len(s.Lex))].Name = text
	case k == 1 && len(s.Lex) > 0:
		s.Lex[d.Intn(len(s.Lex))].Expr.Kind = number
	case k == 2 && len(s.Lex) > 0:
		s.Lex = s.Lex[:len(s.Lex)-1]
	case k == 3 && len(s.Names) > 0:
		s.Names[d.Intn(len(s.Names))] = text
	case k == 4 && len(s.Names) > 0:
		s.Names = s.Names[:len(s.Names)-1]
	case k == 5:
		s.Start = number
	case len(s.Productions) == 0:
		s.Productions = []api.Production{prod(number)}
	case k == 6:
		i := d.Intn(len(s.Productions))
		s.Productions = slices.Delete(s.Productions, i, i+1)
	case k == 7:
		s.Productions[d.Intn(len(s.Productions))].Left = number
	case k == 8:
		p := &s.Productions[d.Intn(len(s.Productions))]
		p.Right = append(p.Right, api.Sym{Kind: d.Intn(5), N: number})
	default:
		p := &s.Productions[d.Intn(len(s.Productions))]
		p.Right = make([]api.Sym, 16+d.Intn(2))
		for i := range p.Right {
			p.Right[i] = fails
		}
	}
	return s
}

// copied shares no list with a spec.
func copied(s api.Spec) api.Spec {
	s.Lex, s.Names, s.Productions = slices.Clone(s.Lex), slices.Clone(s.Names), slices.Clone(s.Productions)
	for i := range s.Lex {
		s.Lex[i].Expr = copiedPattern(s.Lex[i].Expr)
	}
	for i := range s.Productions {
		s.Productions[i].Right = slices.Clone(s.Productions[i].Right)
	}
	return s
}

func copiedPattern(e api.Expr) api.Expr {
	e.List = slices.Clone(e.List)
	for i := range e.List {
		e.List[i] = copiedPattern(e.List[i])
	}
	return e
}
