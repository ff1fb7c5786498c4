package paint_test

import (
	"slices"
	"strings"
	"testing"

	"graft/api"
	"graft/paint"
)

// TestStyleExamples are the chapter's examples 1, 2 and 6.
func TestStyleExamples(t *testing.T) {
	e := compiled(t, ten)
	v := opened(t, e, "1 +2;#;")
	one := styles("num @it", "n", "(E) @it", "e", "(!) @it", "bad")
	for _, order := range [][]int{{0, 1, 2}, {0, 2, 1}, {1, 0, 2}, {1, 2, 0}, {2, 0, 1}, {2, 1, 0}} {
		p := painter(t, e.Spec(), lists{styles: []api.Style{one[order[0]], one[order[1]], one[order[2]]}})
		wantPaints(t, "example 1", p, v, row(0, 1, "n"), row(1, 3, "e"), row(3, 4, "n"), row(5, 6, "bad"))
	}
	n := []api.Paint{row(0, 1, "n"), row(3, 4, "n")}
	two := styles("num @it", "n", `num = "2" @it`, "two")
	wantPaints(t, "example 2", painter(t, e.Spec(), lists{styles: two}), v, n[0], row(3, 4, "two"))
	slices.Reverse(two)
	wantPaints(t, "example 2, the other way round", painter(t, e.Spec(), lists{styles: two}), v, n...)
	wantPaints(t, "example 2, T", painter(t, e.Spec(), lists{styles: styles("(T) @it", "t", "num @it", "n")}), v, n...)
	wantNew(t, e.Spec(), lists{styles: styles("T @it", "t")}, api.Fault{Err: api.ErrQueryName, Name: "styles"})
	p := painter(t, e.Spec(), lists{one, []string{"_ @it"}, []string{"_ @it"}})
	wantRefused(t, "example 6", p, version{v.root, []byte("1 +2;#;x")}, api.ErrArg)
}

// TestOutlineExamples is the chapter's example 3.
func TestOutlineExamples(t *testing.T) {
	e := compiled(t, ten)
	v := opened(t, e, "1 +2;#;")
	named, bare := "(S (E ~ num @name)) @it", "(S) @it"
	wantOutline(t, "example 3", painter(t, e.Spec(), lists{outline: []string{named, bare}}), v, entry(0, 0, 5, "1"), entry(0, 5, 7, ""))
	wantOutline(t, "example 3, the other way round", painter(t, e.Spec(), lists{outline: []string{bare, named}}), v, entry(0, 0, 5, ""), entry(0, 5, 7, ""))
	wantOutline(t, "example 3, E", painter(t, e.Spec(), lists{outline: []string{"(E) @it"}}), v, entry(0, 0, 4, ""), entry(1, 0, 1, ""))
}

// TestFoldExample is the chapter's example 4.
func TestFoldExample(t *testing.T) {
	e := compiled(t, ten)
	wantFolds(t, "example 4", painter(t, e.Spec(), lists{folds: []string{"(S) @it", "(L) @it"}}), opened(t, e, "\n;"), span(0, 2))
}

// TestNewExamples is the chapter's example 5.
func TestNewExamples(t *testing.T) {
	s := readSpec(t, ten)
	wantNew(t, s, lists{styles: styles("num @x", "n")}, api.Fault{Err: api.ErrStyle, Name: "styles"})
	wantNew(t, s, lists{styles: styles("num @it", "")}, api.Fault{Err: api.ErrStyle, Name: "styles"})
	wantNew(t, s, lists{folds: []string{"_"}}, api.Fault{Err: api.ErrStyle, Name: "folds"})
	wantNew(t, s, lists{outline: []string{"_ @it", "(X) @it"}}, api.Fault{Err: api.ErrQueryName, At: 1, Name: "outline"})
	wantNew(t, s, lists{styles: slices.Repeat(styles("num @it", "n"), 65)}, api.Fault{Err: api.ErrLong})
}

// wantNew holds the fault with which a painter is refused, or that none is.
func wantNew(t *testing.T, s api.Spec, l lists, want api.Fault) {
	t.Helper()
	p, f := paint.New(s, l.styles, l.folds, l.outline)
	if f != want || (p == nil) != (want.Err != api.OK) {
		t.Errorf("P1601: %s: %+v, want %+v", short(l), f, want)
	}
}

// TestPainted are cases of P1602 by hand.
func TestPainted(t *testing.T) {
	e := compiled(t, calls)
	const text = "  a =\n f( 1 , 2 );#;\n;@;"
	v := opened(t, e, text)
	whole := func(name string) api.Paint { return row(2, len(text), name) }
	for _, c := range []struct {
		what   string
		styles []api.Style
		want   []api.Paint
	}{
		{"no styles", nil, nil},
		{"one that finds nothing", styles("text @it", "t"), nil},
		{"trivia ahead of the first leaf has no style, trivia within has", styles("(P) @it", "p"), []api.Paint{whole("p")}},
		{"trivia ahead of a node is the node's above", styles("(P) @it", "p", "(V num) @it", "v"), []api.Paint{row(2, 10, "p"), row(10, 11, "v"), row(11, 14, "p"), row(14, 15, "v"), row(15, len(text), "p")}},
		{"trivia within a node, between its leaves", styles("(V (_)) @it", "f", "(A) @it", "a"), []api.Paint{row(7, 10, "f"), row(10, 15, "a"), row(15, 17, "f")}},
		{"the lowest node, whatever the order", styles("num @it", "n", "(V) @it", "v", "_ @it", "all"), []api.Paint{whole("all")}},
		{"the same node, the last style", styles("num @it", "a", "num @it", "b"), []api.Paint{row(10, 11, "b"), row(14, 15, "b")}},
		{"a higher node, though its style is the last", styles("num @it", "n", "(V num) @it", "v"), []api.Paint{row(10, 11, "n"), row(14, 15, "n")}},
		{"equal names side by side are one", styles("name @it", "w", "o @it", "w", "eq @it", "w"), []api.Paint{row(2, 3, "w"), row(4, 5, "w"), row(7, 9, "w")}},
		{"equal names, one above the other, are one", styles("(V (_)) @it", "w", "num @it", "w", "c @it", "w"), []api.Paint{row(7, 17, "w")}},
		{"other names between", styles("(V (_)) @it", "w", "comma @it", "k", "num @it", "w"), []api.Paint{row(7, 12, "w"), row(12, 13, "k"), row(13, 17, "w")}},
		{"nodes without bytes", styles("$ @it", "end", "(P .) @it", "none", "(A .) @it", "none", "(! .) @it", "none"), nil},
		{"findings without the capture", styles("num name @it _", "x"), []api.Paint{row(2, 3, "x"), row(7, 8, "x")}},
		{"the capture in several patterns", styles("num @it (V name @it) eq @it", "x"), []api.Paint{row(4, 5, "x"), row(7, 8, "x"), row(10, 11, "x"), row(14, 15, "x")}},
		{"the capture far below its pattern's top", styles("(P ~ num @it)", "x"), []api.Paint{row(10, 11, "x"), row(14, 15, "x")}},
		{"other captures beside it", styles("(L (_) @name comma @it (_) @x) @y", "x"), []api.Paint{row(12, 13, "x")}},
		{"an error node, and one without leaves", styles("(!) @it", "bad", "(S (!)) @it", "s"), []api.Paint{row(21, 22, "s"), row(22, 23, "bad"), row(23, 24, "s")}},
	} {
		p := painter(t, e.Spec(), lists{styles: c.styles})
		wantPaints(t, c.what, p, v, c.want...)
	}
}

// TestFolded are cases of P1603 by hand.
func TestFolded(t *testing.T) {
	e := compiled(t, calls)
	const text = "\n a(\n\"x\ny\");\n 1;\n"
	v := opened(t, e, text)
	for _, c := range []struct {
		what  string
		folds []string
		want  []api.Span
	}{
		{"none", nil, nil},
		{"a leaf that holds one", []string{"text @it"}, []api.Span{span(5, 10)}},
		{"one in the trivia ahead alone", []string{"(S (V num)) @it", "num @it", "name @it"}, nil},
		{"one in trivia within", []string{"(S) @it"}, []api.Span{span(2, 12)}},
		{"the end leaf has no text", []string{"$ @it"}, nil},
		{"the text behind the last token is the end's", []string{"_ @it"}, []api.Span{span(2, 17), span(2, 16), span(2, 12), span(2, 11), span(5, 10)}},
		{"the same From: the greater To ahead, whatever the order", []string{"(V name) @it", "(V (_)) @it", "(S) @it", "(P) @it"}, []api.Span{span(2, 16), span(2, 12), span(2, 11)}},
		{"the same of several nodes", []string{"(A) @it", "(L) @it", "(V text) @it", "text @it", "text @it"}, []api.Span{span(5, 10)}},
		{"findings without the capture", []string{"(S) text @it num"}, []api.Span{span(5, 10)}},
	} {
		wantFolds(t, c.what, painter(t, e.Spec(), lists{folds: c.folds}), v, c.want...)
	}
}

// TestOutlined are cases of P1604 by hand.
func TestOutlined(t *testing.T) {
	e := compiled(t, calls)
	long := strings.Repeat("m", api.MaxName)
	const text = "a = f( 1,g(2) );\n3;"
	v := opened(t, e, text)
	for _, c := range []struct {
		what    string
		outline []string
		v       version
		want    []api.Entry
	}{
		{"none", nil, v, nil},
		{"nothing found", []string{"text @it"}, v, nil},
		{"depths, with nodes between that have no entry", []string{"(S) @it", "(V name @name) @it"}, v, []api.Entry{entry(0, 0, 16, ""), entry(1, 4, 15, "f"), entry(2, 9, 13, "g"), entry(0, 17, 19, "")}},
		{"the first query's name, though a later one has another", []string{"(S name @name) @it", "(S ~ num @name) @it"}, v, []api.Entry{entry(0, 0, 16, "a"), entry(0, 17, 19, "3")}},
		{"the first query's, though it has none", []string{"(S name) @it", "(S ~ num @name) @it"}, v, []api.Entry{entry(0, 0, 16, ""), entry(0, 17, 19, "3")}},
		{"the first finding's name", []string{"(S ~ num @name) @it"}, v, []api.Entry{entry(0, 0, 16, "1"), entry(0, 17, 19, "3")}},
		{"the first finding's of the first pattern that finds it", []string{"(S ~ (V num) @name) @it (S . name @name) @it"}, v, []api.Entry{entry(0, 0, 16, "1"), entry(0, 17, 19, "3")}},
		{"the first finding's, though it has none", []string{"(S) @it (S ~ num @name) @it"}, v, []api.Entry{entry(0, 0, 16, ""), entry(0, 17, 19, "")}},
		{"findings without the capture do not count", []string{"(S ~ num @name) (S name @name) @it"}, v, []api.Entry{entry(0, 0, 16, "a")}},
		{"a name without the trivia ahead of it", []string{"(L ~ (V num) @name) @it"}, v, []api.Entry{entry(0, 7, 13, "1"), entry(1, 7, 8, "1"), entry(1, 11, 12, "2")}},
		{"the name above", []string{"(S . name ~ num @it) @name"}, v, []api.Entry{entry(0, 7, 8, text[:16]), entry(0, 11, 12, text[:16])}},
		{"leaves in their order, whatever the order of findings", []string{"num @it", "name @it"}, v, []api.Entry{entry(0, 0, 1, ""), entry(0, 4, 5, ""), entry(0, 7, 8, ""), entry(0, 9, 10, ""), entry(0, 11, 12, ""), entry(0, 17, 18, "")}},
		{"a name of MaxName bytes", []string{"(V name @name) @it"}, opened(t, e, long+";"), []api.Entry{entry(0, 0, api.MaxName, long)}},
		{"a name of one more", []string{"(V name @name) @it"}, opened(t, e, long+"n;"), []api.Entry{entry(0, 0, api.MaxName+1, long)}},
		{"a name with no bytes", []string{"(_ $ @name) @it"}, opened(t, e, "1; "), []api.Entry{entry(0, 0, 3, "")}},
		{"nodes without bytes", []string{"_ @it"}, opened(t, e, " \n"), []api.Entry{entry(0, 2, 2, ""), entry(1, 0, 0, ""), entry(1, 2, 2, "")}},
		{"nodes without leaves within", []string{"(A) @it", "(P .) @it"}, opened(t, e, " f( ) ;"), []api.Entry{entry(0, 0, 0, ""), entry(0, 3, 3, "")}},
	} {
		wantOutline(t, c.what, painter(t, e.Spec(), lists{outline: c.outline}), c.v, c.want...)
	}
}

// TestWrongTexts is ErrArg: each call with texts that are too short, too long, and of no bytes; whatever the painter asks.
func TestWrongTexts(t *testing.T) {
	e := compiled(t, ten)
	for _, l := range []lists{{}, {styles("_ @it", "a"), []string{"_ @it"}, []string{"_ @it"}}} {
		p := painter(t, e.Spec(), l)
		for _, text := range []string{"1;", " 1+2 ;3;#;", "7", ""} {
			v := opened(t, e, text)
			told(t, p, v)
			for _, wrong := range []string{text + " ", text + text + "1", strings.Repeat("1", api.MaxText+1)} {
				wantRefused(t, "too long", p, version{v.root, []byte(wrong)}, api.ErrArg)
			}
			if text != "" {
				wantRefused(t, "too short", p, version{v.root, []byte(text[1:])}, api.ErrArg)
				wantRefused(t, "no bytes", p, version{v.root, nil}, api.ErrArg)
			}
		}
	}
}
