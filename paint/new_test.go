package paint_test

import (
	"slices"
	"strings"
	"testing"

	"graft/api"
)

// flaw is a style, or the query of a fold or an outline, with what is wrong with it.
type flaw struct {
	style api.Style
	err   api.Errno
}

// wrongQueries are refused as queries of any list: by query.Parse in each of its ways, and for want of the capture. Where two things are wrong, the one that counts comes first.
func wrongQueries() []flaw {
	deep := strings.Repeat("(_ ", api.MaxNest+1) + "_ @it" + strings.Repeat(")", api.MaxNest+1)
	var out []flaw
	for _, c := range []struct {
		query string
		err   api.Errno
	}{
		{"_ @it" + strings.Repeat(" ", api.MaxQuery-4), api.ErrLong},
		{"", api.ErrQuery}, {"num @it)", api.ErrQuery}, {"(L", api.ErrQuery}, {"num @it @it", api.ErrQuery}, {"num @", api.ErrQuery}, {"num \x00@it", api.ErrQuery},
		{deep, api.ErrNest}, {strings.Repeat("(_ ", api.MaxNest+1), api.ErrNest},
		{"(X) @it", api.ErrQueryName}, {"T @it", api.ErrQueryName}, {"ws @it", api.ErrQueryName}, {"X", api.ErrQueryName},
		{"(E num @it num @it)", api.ErrCapture}, {"(E num @a num @a)", api.ErrCapture}, {"(E num @it) @it", api.ErrCapture},
		{"_", api.ErrStyle}, {"num @x", api.ErrStyle}, {"num @IT", api.ErrStyle}, {"num @it_", api.ErrStyle}, {"(E num @i) @t num @name", api.ErrStyle}, {`num = "@it"`, api.ErrStyle},
	} {
		out = append(out, flaw{api.Style{Query: c.query, Name: "n"}, c.err})
	}
	return out
}

// wrongStyles are refused as styles: those, and names that may not be, whatever the query.
func wrongStyles() []flaw {
	out := wrongQueries()
	for _, name := range []string{"", strings.Repeat("n", api.MaxName+1), strings.Repeat("n", 1<<16)} {
		for _, query := range []string{"num @it", "num", "(", strings.Repeat(" ", api.MaxQuery+1), "X @it"} {
			out = append(out, flaw{api.Style{Query: query, Name: name}, api.ErrStyle})
		}
	}
	return out
}

// flawsOf are those of a list: styles, folds, outline.
func flawsOf(list int) []flaw {
	if list == 0 {
		return wrongStyles()
	}
	return wrongQueries()
}

// with puts a style, or its query, into one of the lists.
func (l lists) with(list, at int, x api.Style) lists {
	l = lists{slices.Clone(l.styles), slices.Clone(l.folds), slices.Clone(l.outline)}
	switch list {
	case 0:
		l.styles[at] = x
	case 1:
		l.folds[at] = x.Query
	default:
		l.outline[at] = x.Query
	}
	return l
}

// right are lists of so many that are right.
func right(count int) lists {
	var l lists
	for i := range count {
		query := []string{"num @it", "(E . (E) @it) _", "_ (S ~ num @name) @it"}[i%3]
		l.styles = append(l.styles, api.Style{Query: query, Name: []string{"n", strings.Repeat("n", api.MaxName), "\x00 \xff"}[i%3]})
		l.folds, l.outline = append(l.folds, query), append(l.outline, query)
	}
	return l
}

// listNames are how faults name the lists.
func listNames() []string { return []string{"styles", "folds", "outline"} }

// TestOneFlaw is P1601: each fault alone, at each place of each list.
func TestOneFlaw(t *testing.T) {
	s := readSpec(t, ten)
	for list, name := range listNames() {
		for _, x := range flawsOf(list) {
			for _, at := range []int{0, 1, 2, api.MaxStyles - 1} {
				wantNew(t, s, right(api.MaxStyles).with(list, at, x.style), api.Fault{Err: x.err, At: at, Name: name})
			}
		}
	}
}

// TestTwoFlaws is P1601: of two faults the first counts, by the lists, then by the places.
func TestTwoFlaws(t *testing.T) {
	s := readSpec(t, ten)
	const count = 3
	for i := range 3 * count {
		for j := range i {
			for _, first := range flawsOf(j / count) {
				for _, second := range flawsOf(i / count) {
					l := right(count).with(i/count, i%count, second.style).with(j/count, j%count, first.style)
					wantNew(t, s, l, api.Fault{Err: first.err, At: j % count, Name: listNames()[j/count]})
				}
			}
		}
	}
}

// TestTooMany is P1601: MaxStyles of each list, and one more, ahead of all other faults.
func TestTooMany(t *testing.T) {
	s := readSpec(t, ten)
	full, over := right(api.MaxStyles), right(api.MaxStyles+1)
	wantNew(t, s, full, api.Fault{})
	wantNew(t, s, lists{}, api.Fault{})
	wantNew(t, s, lists{[]api.Style{}, []string{}, []string{}}, api.Fault{})
	for _, l := range []lists{over, {over.styles, nil, nil}, {nil, over.folds, nil}, {nil, nil, over.outline}, {full.styles, full.folds, over.outline}, {full.styles, over.folds, full.outline}, {styles("", ""), over.folds, nil}, {styles("", ""), []string{""}, over.outline}, {nil, []string{""}, over.outline}, {over.styles, []string{""}, nil}} {
		wantNew(t, s, l, api.Fault{Err: api.ErrLong})
	}
	for list := range listNames() {
		wantNew(t, s, over.with(list, 0, api.Style{}), api.Fault{Err: api.ErrLong})
	}
	var long lists
	long.styles = make([]api.Style, 1<<16)
	wantNew(t, s, long, api.Fault{Err: api.ErrLong})
}

// TestLongest is P1601 and P1602: names and queries as long as may be.
func TestLongest(t *testing.T) {
	e := compiled(t, ten)
	name := strings.Repeat("\xff", api.MaxName)
	query := strings.Repeat("_", api.MaxQuery-14) + "   num @it    "
	p := painter(t, e.Spec(), lists{styles: styles(query, name), folds: []string{query}, outline: []string{query}})
	v := opened(t, e, "7;")
	wantPaints(t, "the longest", p, v, row(0, 1, name))
	wantFolds(t, "the longest", p, v)
	wantOutline(t, "the longest", p, v, entry(0, 0, 1, ""))
}

// TestOddSpecs is P1601 and P6: of a spec nothing counts but what query.Parse looks at; what no other package would take is taken.
func TestOddSpecs(t *testing.T) {
	deep := api.Expr{Kind: api.XRange, To: 255}
	for range api.MaxNest + 9 {
		deep = api.Expr{Kind: api.XRepeat, Min: 3, Max: -7, List: []api.Expr{deep}}
	}
	many := api.Spec{Start: 1 << 40}
	for i := range 999 {
		many.Lex = append(many.Lex, api.LexRule{Name: strings.Repeat("r", i), Trivia: i < 3, Expr: deep})
		many.Names = append(many.Names, strings.Repeat("n", i))
		many.Productions = append(many.Productions, api.Production{Left: 500 - i, Right: make([]api.Sym, i)})
	}
	twice := api.Spec{Lex: []api.LexRule{{Name: "a"}, {Name: "a", Trivia: true}, {Name: "a"}}, Names: []string{"a", "a", "é\x00"}, Start: -1, Productions: []api.Production{{Left: -1}, {Left: 7}, {Left: 1, Right: []api.Sym{{Kind: 99, N: -5}}}}}
	for _, c := range []struct {
		s     api.Spec
		query string
		err   api.Errno
	}{
		{api.Spec{}, "_ @it", api.OK}, {api.Spec{}, "(!) @it", api.OK}, {api.Spec{}, "a @it", api.ErrQueryName}, {api.Spec{}, `("") @it`, api.ErrQueryName}, {api.Spec{}, "_", api.ErrStyle},
		{many, "rrr @it (nn) @it", api.OK}, {many, "rr @it", api.ErrQueryName}, {many, `("") @it`, api.OK}, {many, strings.Repeat("r", 998) + " @it", api.OK},
		{twice, "a @it", api.OK}, {twice, "(a) @it", api.OK}, {twice, `("\xc3\xA9\x00") @it`, api.OK}, {twice, `"\xc3\xA9\x00" @it`, api.ErrQueryName},
	} {
		for list, name := range listNames() {
			l := right(0)
			l.styles, l.folds, l.outline = styles("_ @it", "n"), []string{"_ @it"}, []string{"_ @it"}
			want := api.Fault{}
			if c.err != api.OK {
				want = api.Fault{Err: c.err, Name: name}
			}
			wantNew(t, c.s, l.with(list, 0, api.Style{Query: c.query, Name: "n"}), want)
		}
	}
}
