package layout_test

import (
	"bytes"
	"reflect"
	"slices"
	"strings"
	"testing"

	"graft/api"
	"graft/layout"
	"graft/tree"
)

// spoil writes over a list with all its room.
func spoil[T any](l []T, with T) {
	l = l[:cap(l)]
	for i := range l {
		l[i] = with
	}
}

// roomy is a list with spare room that holds something.
func roomy[T any](l []T, spare T) []T {
	out := append(make([]T, 0, len(l)+3), l...)
	spoil(out[len(l):], spare)
	return out
}

// longCalls is a text with all kinds of trivia, and much to be edited.
const longCalls = "#a\n a=f(1,\n\"x\ny\", g() );#b\n#c\n (2 3 #d\n);\nb=fg(\n);7;\n#e"

// callRules are rules for calls, with gaps of all kinds.
func callRules(s api.Spec) api.Rules {
	return spaced(s, gap{0, 1, api.GLine}, gap{2, 1, api.GBlank}, gap{2, 2, api.GBlank}, gap{8, 2, api.GIn}, gap{8, 3, api.GOut}, gap{12, 2, api.GLine})
}

// answers are what a layout tells of a version.
type answers struct {
	text  string
	edits []api.Edit
	err   api.Errno
}

func told(t testing.TB, l *layout.Layout, v version) answers {
	t.Helper()
	text, e := l.Print(v.root, []byte(v.text))
	edits, e2 := l.Edits(v.root, []byte(v.text))
	if e != e2 {
		t.Errorf("P1704: %v and %v", e, e2)
	}
	return answers{text, edits, e}
}

func same(a, b answers) bool {
	return a.text == b.text && sameEdits(a.edits, b.edits) && a.err == b.err
}

// TestEditsAreOwn is P2: the edits that are told, and their bytes, are new memory each time, their spare room too, and share none with one another.
func TestEditsAreOwn(t *testing.T) {
	e := compiled(t, calls)
	s := e.Spec()
	l := laid(t, s, callRules(s))
	v := opened(t, e, longCalls)
	want := told(t, l, v)
	if want.err != api.OK || len(want.edits) < 10 {
		t.Fatalf("too little is edited: %+v", want)
	}
	for range 3 {
		first, second := told(t, l, v), told(t, l, v)
		for i := range first.edits {
			spoil(append(first.edits[i].Ins, "appended"...), 'z')
			spoil(first.edits[i].Ins, 'z')
			for j := i + 1; j < len(first.edits); j++ {
				if !bytes.Equal(first.edits[j].Ins, want.edits[j].Ins) {
					t.Fatalf("P2: the bytes of edit %d are those of edit %d", i, j)
				}
			}
		}
		spoil(append(first.edits, edit(1, 2, "z")), edit(-1, -1, "spoilt"))
		spoil(first.edits, edit(-1, -1, "spoilt"))
		if !same(second, want) || !same(told(t, l, v), want) {
			t.Fatal("P2: what is told hangs on what was told before")
		}
	}
}

// TestArgumentsStay is P2: the spec, the rules, the tree and the texts stay as they are, their spare room too, whether they are taken or refused.
func TestArgumentsStay(t *testing.T) {
	e := compiled(t, calls)
	for _, kind := range []int{api.GBlank, 0} {
		s := e.Spec()
		r := callRules(s)
		s.Lex, s.Names, s.Productions = roomy(s.Lex, api.LexRule{Name: "spare"}), roomy(s.Names, "spare"), roomy(s.Productions, api.Production{Left: -9})
		r.Gaps[5][1] = kind
		for i := range r.Gaps {
			r.Gaps[i] = roomy(r.Gaps[i], -7)
		}
		r.Gaps = roomy(r.Gaps, []int{-8})
		layout.New(s, r)
		was := callRules(e.Spec())
		was.Gaps[5][1] = kind
		if !reflect.DeepEqual(s, e.Spec()) || !reflect.DeepEqual(r, was) {
			t.Error("P2: New has changed the spec or the rules")
		}
		if s.Lex[:cap(s.Lex)][len(s.Lex)+2].Name != "spare" || s.Names[:cap(s.Names)][len(s.Names)] != "spare" || s.Productions[:cap(s.Productions)][len(s.Productions)].Left != -9 || r.Gaps[:cap(r.Gaps)][len(r.Gaps)][0] != -8 || r.Gaps[2][:cap(r.Gaps[2])][len(r.Gaps[2])] != -7 {
			t.Error("P2: New has written into spare room")
		}
	}
	v := opened(t, e, longCalls)
	rows := v.root.Rows()
	l := laid(t, e.Spec(), callRules(e.Spec()))
	for _, text := range []string{longCalls, longCalls + "x", strings.Replace(longCalls, "7", "x", 1), strings.Replace(longCalls, "7", "8", 1)} {
		in, other := roomy([]byte(text), 'z'), roomy([]byte(text), 'z')
		l.Print(v.root, in)
		l.Edits(v.root, in)
		layout.Same(v.root, v.root, in, other)
		if string(in[:cap(in)]) != text+"zzz" || string(other[:cap(other)]) != text+"zzz" {
			t.Error("P2: a text has changed")
		}
	}
	if !slices.Equal(v.root.Rows(), rows) {
		t.Error("P2: a tree has changed")
	}
}

// TestArgumentsNotKept is P2 and P3: what New was handed may be written over, and so may texts behind a call.
func TestArgumentsNotKept(t *testing.T) {
	e := compiled(t, calls)
	v := opened(t, e, longCalls)
	want := told(t, laid(t, e.Spec(), callRules(e.Spec())), v)
	s := e.Spec()
	r := callRules(s)
	l := laid(t, s, r)
	for i := range s.Lex {
		spoil(s.Lex[i].Expr.List, api.Expr{Kind: api.XRange, To: 255})
	}
	spoil(s.Lex, api.LexRule{Name: "spoilt", Trivia: true})
	for _, p := range s.Productions {
		spoil(p.Right, api.Sym{})
	}
	spoil(s.Productions, api.Production{Left: -1, Right: make([]api.Sym, 9)})
	for _, list := range r.Gaps {
		spoil(list, api.GIn)
	}
	spoil(r.Gaps, []int{99})
	if !same(told(t, l, v), want) {
		t.Error("P2: the layout hangs on what New was handed")
	}
	text := []byte(longCalls)
	printed, _ := l.Print(v.root, text)
	edits, _ := l.Edits(v.root, text)
	spoil(text, 'q')
	if printed != want.text || !sameEdits(edits, want.edits) || !same(told(t, l, v), want) {
		t.Error("P2: what is told hangs on the text")
	}
}

// TestNilAndEmpty is P2: nil and empty lists are the same.
func TestNilAndEmpty(t *testing.T) {
	e := compiled(t, ten)
	v := opened(t, e, "")
	l := laid(t, e.Spec(), usual(e.Spec()))
	for _, text := range [][]byte{nil, {}} {
		if got, err := l.Print(v.root, text); got != "" || err != api.OK {
			t.Errorf("P2: %q, %v", got, err)
		}
		if got, err := l.Edits(v.root, text); len(got) > 0 || err != api.OK {
			t.Errorf("P2: %v, %v", got, err)
		}
		if !layout.Same(v.root, v.root, text, nil) || !layout.Same(v.root, v.root, []byte{}, text) {
			t.Error("P2: Same")
		}
	}
	for _, s := range []api.Spec{{}, {Lex: []api.LexRule{}, Names: []string{}, Productions: []api.Production{}}} {
		for _, r := range []api.Rules{{}, {Gaps: [][]int{}}} {
			store := tree.New()
			wantPrinted(t, "nothing", laid(t, s, r), version{made(t, store, api.NRoot, 0, leafNodes(t, store, s.Lex, "ab")...), "ab"}, "ab")
		}
	}
}

// TestInTurns is P3: layouts, and trees, that are asked in turns do not see one another; and no refusal changes a layout.
func TestInTurns(t *testing.T) {
	e, other := compiled(t, calls), compiled(t, noted)
	var layouts []*layout.Layout
	var of []version
	var want []answers
	add := func(s api.Spec, r api.Rules, v version) {
		layouts, of, want = append(layouts, laid(t, s, r)), append(of, v), append(want, told(t, laid(t, s, r), v))
	}
	for n := range 3 {
		add(e.Spec(), callRules(e.Spec()), opened(t, e, longCalls[n:]))
		add(e.Spec(), filled(e.Spec(), api.GIn), opened(t, e, longCalls[n*2:]))
		add(other.Spec(), usual(other.Spec()), opened(t, other, "1 +2; #a\n;"[n:]))
	}
	layouts[3], layouts[6] = layouts[0], layouts[0]
	for range 3 {
		for i := range layouts {
			j := i * 4 % len(layouts)
			if !same(told(t, layouts[j], of[j]), want[j]) {
				t.Fatalf("P3: layout %d", j)
			}
			wantRefused(t, "in turns", layouts[j], version{of[j].root, ""}, api.ErrArg)
		}
	}
}
