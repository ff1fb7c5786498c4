package paint_test

import (
	"slices"
	"strings"
	"testing"

	"graft/api"
)

// chain has trees that are as deep as their texts are long: each byte is a node below the one ahead.
const chain = `token x = /x/; token y = /y/; token nl = /\n/; start R; R = x R | y R | nl R | ;`

// TestDeepest is P1 for trees as deep as the longest texts are long.
func TestDeepest(t *testing.T) {
	t.Parallel()
	const n, mid = api.MaxText, api.MaxText / 2
	text := []byte(strings.Repeat("x", n))
	text[mid] = 'y'
	for _, at := range []int{0, mid + 1, n - 1} {
		text[at] = '\n'
	}
	e := compiled(t, chain)
	v := opened(t, e, string(text))
	p := painter(t, e.Spec(), lists{
		styles("(R y . (R) @it)", "rest", "(_ $) @it", "all", "y @it", "y", "(R .) @it", "none"),
		[]string{"(R nl) @it", "nl @it", "(R x . (R .)) @it"},
		[]string{"(_ $) @it", "(R . y @name) @it", "(R .) @it", "nl @it"},
	})
	wantPaints(t, "deep", p, v, row(0, mid, "all"), row(mid, mid+1, "y"), row(mid+1, n, "rest"))
	wantFolds(t, "deep", p, v, span(0, n), span(0, 1), span(mid+1, n), span(mid+1, mid+2), span(n-1, n))
	wantOutline(t, "deep", p, v, entry(0, 0, n, ""), entry(1, 0, 1, ""), entry(1, mid, n, "y"), entry(2, mid+1, mid+2, ""), entry(2, n-1, n, ""), entry(2, n, n, ""))
	d, _ := e.Open(text)
	d.Edit(0, mid, 1, []byte("x"))
	wantRenewed(t, p, asked(t, d, 0), asked(t, d, 1))
	wantRenewed(t, p, asked(t, d, 1), asked(t, d, 0))
	wantRenewed(t, p, asked(t, d, 0), asked(t, d, 0))
}

// TestDeepLists is P1 for the trees of long texts that grow on the left, in brackets, and that are wrong.
func TestDeepLists(t *testing.T) {
	const n = api.MaxText - 8
	for _, c := range []struct {
		what, language, text string
		l                    lists
		paints               []api.Paint
		entries              []api.Entry
	}{
		{"on the left", ten, "7+1;" + strings.Repeat("1;", n/2), lists{styles(`(E (E) . plus) @it`, "e", `(T num = "7") @it`, "t"), nil, []string{"(L .) @it", "(_ $) @it", "plus @it"}}, []api.Paint{row(0, 1, "t"), row(1, 3, "e")}, []api.Entry{entry(0, 0, n+4, ""), entry(1, 0, 0, ""), entry(1, 1, 2, "")}},
		{"in brackets", nest, strings.Repeat("l", n/2) + "x" + strings.Repeat("r", n/2), lists{styles("(S x) @it", "a", "(S . l (S x)) @it", "b"), nil, []string{"(_ (S) $) @it", "(S x @name) @it"}}, []api.Paint{row(n/2-1, n/2, "b"), row(n/2, n/2+1, "a"), row(n/2+1, n/2+2, "b")}, []api.Entry{entry(0, 0, n+1, ""), entry(1, n/2, n/2+1, "x")}},
		{"brackets that are never closed", nest, strings.Repeat("l", n) + "x", lists{styles("x @it", "x", "(!) @it", "bad"), nil, []string{"(!) @it"}}, []api.Paint{row(0, n, "bad"), row(n, n+1, "x")}, []api.Entry{entry(0, 0, n+1, "")}},
	} {
		t.Run(c.what, func(t *testing.T) {
			t.Parallel()
			e := compiled(t, c.language)
			v := opened(t, e, c.text)
			p := painter(t, e.Spec(), c.l)
			wantPaints(t, c.what, p, v, c.paints...)
			wantFolds(t, c.what, p, v)
			wantOutline(t, c.what, p, v, c.entries...)
		})
	}
}

// TestDeepAll is P1602 to P1604 and P1609 for deep trees in which all nodes are found.
func TestDeepAll(t *testing.T) {
	t.Parallel()
	const n = 1 << 12
	text := strings.Repeat("xy\nx", n/4)
	e := compiled(t, chain)
	v := opened(t, e, text)
	all := lists{styles("_ @it", "n"), []string{"_ @it"}, []string{"(R) @it"}}
	p := painter(t, e.Spec(), all)
	wantPaints(t, "all", p, v, row(0, n, "n"))
	var folds []api.Span
	var entries []api.Entry
	for at := range n + 1 {
		entries = append(entries, entry(at, at, n, ""))
		if strings.Contains(text[at:], "\n") {
			folds = append(folds, span(at, n))
		}
		if at < n && text[at] == '\n' {
			folds = append(folds, span(at, at+1))
		}
	}
	wantFolds(t, "all", p, v, folds...)
	wantOutline(t, "all", p, v, entries...)
	two := painter(t, e.Spec(), lists{styles: styles("(R x) @it", "x", "(R y) @it", "y", "nl @it", "l")})
	var rows []api.Paint
	for at := 0; at < n; at += 4 {
		rows = append(rows, row(at, at+1, "x"), row(at+1, at+2, "y"), row(at+2, at+3, "l"), row(at+3, at+5, "x"))
	}
	rows = slices.DeleteFunc(rows, func(p api.Paint) bool { return p.Name == "x" && p.From > 0 && p.To-p.From == 1 })
	rows[len(rows)-1].To = n
	wantPaints(t, "each byte by its own", two, v, rows...)
}

// TestWide is P1602 to P1604 for trees with very many children of one node.
func TestWide(t *testing.T) {
	t.Parallel()
	const n = api.MaxText / 3
	e := compiled(t, strict)
	v := opened(t, e, strings.Repeat("b\na", n))
	p := painter(t, e.Spec(), lists{styles("a @it", "a", "b @it", "b", "(_) @it", "all"), []string{"_ @it"}, []string{"a @it", "(_) @it"}})
	var rows []api.Paint
	folds := []api.Span{span(0, 3*n)}
	entries := []api.Entry{entry(0, 0, 3*n, "")}
	for at := 0; at < 3*n; at += 3 {
		rows = append(rows, row(at, at+2, "b"), row(at+2, at+3, "a"))
		folds = append(folds, span(at, at+2))
		entries = append(entries, entry(1, at+2, at+3, ""))
	}
	wantPaints(t, "wide", p, v, rows...)
	wantFolds(t, "wide", p, v, folds...)
	wantOutline(t, "wide", p, v, entries...)
	wantOutline(t, "wide, from the end on", painter(t, e.Spec(), lists{outline: []string{"$ @it", "(_) @it", "a @it"}}), v, append(entries, entry(1, 3*n, 3*n, ""))...)
}
