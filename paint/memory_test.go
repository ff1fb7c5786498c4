package paint_test

import (
	"bytes"
	"slices"
	"testing"

	"graft/api"
	"graft/paint"
)

// spoil writes over a list with all its room.
func spoil[T any](l []T, with T) {
	l = l[:cap(l)]
	for i := range l {
		l[i] = with
	}
}

// roomy is a list with spare room that holds something.
func roomy[T any](l []T, spare T) []T {
	out := append(make([]T, 0, len(l)+3), l...)
	spoil(out[len(l):], spare)
	return out
}

// full is a painter's lists that find much in texts of calls.
func full() lists {
	return lists{
		styles("num @it", "n", "(V) @it", "v", "(S name @it)", "def", "(!) @it", "bad", `name ^ "f" @it`, "f"),
		[]string{"(S) @it", "(P) @it", "text @it"},
		[]string{"(S name @name) @it", "(V name @name) @it", "(!) @it"},
	}
}

// longCalls is a text in which they find it.
const longCalls = "a = f(1,\n\"x\ny\", g());\n ( 2 3 );\nb = fg(\n);7;"

// TestListsAreOwn is P2: what is told is new memory each time, its spare room too.
func TestListsAreOwn(t *testing.T) {
	e := compiled(t, calls)
	d, _ := e.Open([]byte(longCalls))
	d.Edit(0, 5, 0, []byte("2;"))
	p := painter(t, e.Spec(), full())
	was, now := asked(t, d, 0), asked(t, d, 1)
	renewed := func() []api.Paint {
		old, _ := p.Paints(was.root, was.text)
		l, _ := p.Renew(old, was.root, now.root, was.text, now.text)
		return l
	}
	want, wantNow := told(t, p, was), slices.Clone(renewed())
	if len(want.paints) < 5 || len(want.folds) < 3 || len(want.entries) < 5 || len(wantNow) < 5 {
		t.Fatalf("too little is found: %+v", want)
	}
	for range 3 {
		first, second, third := told(t, p, was), told(t, p, was), renewed()
		for _, l := range [][]api.Paint{first.paints, append(first.paints, row(1, 2, "z")), third, append(third, row(1, 2, "z"))} {
			spoil(l, row(-1, -2, "spoilt"))
		}
		spoil(first.folds, span(-1, -2))
		spoil(append(first.folds, span(8, 9)), span(-3, -4))
		spoil(first.entries, entry(-1, -2, -3, "spoilt"))
		spoil(append(first.entries, entry(8, 8, 9, "z")), entry(-4, -5, -6, "spoilt"))
		if !same(second, want) || !same(told(t, p, was), want) || !slices.Equal(renewed(), wantNow) {
			t.Fatal("P2: what is told hangs on what was told before")
		}
	}
}

// TestRenewOwn is P2: Renew leaves the old paints as they were, their spare room too, and what it tells hangs on them no more; where nothing has changed too.
func TestRenewOwn(t *testing.T) {
	e := compiled(t, calls)
	d, _ := e.Open([]byte(longCalls))
	d.Edit(0, 5, 0, []byte("2;"))
	d.Edit(0, 0, 0, nil)
	d.Edit(0, 0, len(longCalls), []byte("1;"))
	p := painter(t, e.Spec(), full())
	for _, pair := range [][2]int{{0, 0}, {0, 1}, {1, 0}, {0, 2}, {2, 0}, {0, 3}, {3, 0}, {3, 3}} {
		was, now := asked(t, d, pair[0]), asked(t, d, pair[1])
		first, _ := p.Paints(was.root, was.text)
		want, _ := p.Paints(now.root, now.text)
		old := roomy(first, row(7, 7, "spare"))
		got, _ := p.Renew(old, was.root, now.root, was.text, now.text)
		again, _ := p.Renew(old, was.root, now.root, was.text, now.text)
		if !slices.Equal(old[:cap(old)], slices.Concat(first, slices.Repeat([]api.Paint{row(7, 7, "spare")}, cap(old)-len(old)))) {
			t.Error("P2: Renew has changed the old paints")
		}
		spoil(append(got, row(1, 2, "z")), row(-1, -1, "spoilt"))
		spoil(got, row(-1, -1, "spoilt"))
		if !slices.Equal(old, first) || !slices.Equal(again, want) {
			t.Error("P2: what Renew told is the old paints' memory")
		}
		spoil(old, row(-2, -2, "spoilt"))
		if !slices.Equal(again, want) {
			t.Error("P2: what Renew told hangs on the old paints")
		}
	}
}

// TestArgumentsStay is P2: the spec, the styles, the lists of queries and the texts stay as they are, their spare room too, whether they are taken or refused.
func TestArgumentsStay(t *testing.T) {
	e := compiled(t, calls)
	l := full()
	for _, more := range []lists{{}, {styles: styles("num", "n")}, {folds: []string{"("}}, {outline: []string{"X @it"}}} {
		own := lists{append(slices.Clone(l.styles), more.styles...), append(slices.Clone(l.folds), more.folds...), append(slices.Clone(l.outline), more.outline...)}
		in := lists{roomy(own.styles, api.Style{Query: "spare", Name: "spare"}), roomy(own.folds, "spare"), roomy(own.outline, "spare")}
		s := e.Spec()
		s.Lex, s.Names, s.Productions = roomy(s.Lex, api.LexRule{Name: "spare"}), roomy(s.Names, "spare"), roomy(s.Productions, api.Production{Left: -9})
		paint.New(s, in.styles, in.folds, in.outline)
		if !slices.Equal(in.styles, own.styles) || !slices.Equal(in.folds, own.folds) || !slices.Equal(in.outline, own.outline) {
			t.Error("P2: New has changed a list")
		}
		spare := func(i int) bool {
			return in.styles[:cap(in.styles)][len(in.styles)+i].Name == "spare" && in.folds[:cap(in.folds)][len(in.folds)+i] == "spare" && in.outline[:cap(in.outline)][len(in.outline)+i] == "spare" && s.Names[:cap(s.Names)][len(s.Names)+i] == "spare" && s.Lex[:cap(s.Lex)][len(s.Lex)+i].Name == "spare" && s.Productions[:cap(s.Productions)][len(s.Productions)+i].Left == -9
		}
		if !spare(0) || !spare(1) || !spare(2) {
			t.Error("P2: New has written into spare room")
		}
		if was := e.Spec(); !slices.Equal(s.Names, was.Names) || len(s.Lex) != len(was.Lex) || s.Lex[3].Name != was.Lex[3].Name || s.Lex[8].Trivia != was.Lex[8].Trivia || s.Productions[5].Left != was.Productions[5].Left || !slices.Equal(s.Productions[5].Right, was.Productions[5].Right) {
			t.Error("P2: New has changed the spec")
		}
	}
	p := painter(t, e.Spec(), l)
	d, _ := e.Open([]byte(longCalls))
	d.Edit(0, 5, 0, []byte("2;"))
	was, now := asked(t, d, 0), asked(t, d, 1)
	rows := was.root.Rows()
	was.text, now.text = roomy(was.text, 'z'), roomy(now.text, 'z')
	told(t, p, was)
	wantRenewed(t, p, was, now)
	wantRefused(t, "too long", p, version{was.root, was.text[:len(was.text)+1]}, api.ErrArg)
	if !bytes.Equal(was.text[:cap(was.text)], []byte(longCalls+"zzz")) || !bytes.HasSuffix(now.text[:cap(now.text)], []byte(longCalls[5:]+"zzz")) {
		t.Error("P2: a text has changed")
	}
	if !slices.Equal(was.root.Rows(), rows) {
		t.Error("P2: a tree has changed")
	}
}

// TestArgumentsNotKept is P2 and P3: what New was handed may be written over, and so may texts behind a call.
func TestArgumentsNotKept(t *testing.T) {
	e := compiled(t, calls)
	v := opened(t, e, longCalls)
	want := told(t, painter(t, e.Spec(), full()), v)
	s, l := e.Spec(), full()
	p := painter(t, s, l)
	spoil(s.Lex, api.LexRule{Name: "spoilt", Trivia: true})
	spoil(s.Names, "spoilt")
	for _, x := range s.Productions {
		spoil(x.Right, api.Sym{})
	}
	spoil(s.Productions, api.Production{Left: -1})
	spoil(l.styles, api.Style{Query: "_ @it", Name: "spoilt"})
	spoil(l.folds, "_ @it")
	spoil(l.outline, "_ @it")
	if !same(told(t, p, v), want) {
		t.Error("P2: the painter hangs on what New was handed")
	}
	other := slices.Clone(v.text)
	got := told(t, p, version{v.root, other})
	spoil(other, 'q')
	if !same(got, want) || !same(told(t, p, v), want) {
		t.Error("P2: what is told hangs on the text")
	}
}

// TestNilAndEmpty is P2: nil and empty lists are the same.
func TestNilAndEmpty(t *testing.T) {
	e := compiled(t, ten)
	v := opened(t, e, "")
	for _, l := range []lists{{}, {[]api.Style{}, []string{}, []string{}}, {styles("num @it", "n"), []string{"_ @it"}, []string{"num @it"}}} {
		p := painter(t, e.Spec(), l)
		for _, text := range [][]byte{nil, {}} {
			if got := told(t, p, version{v.root, text}); !same(got, answers{}) {
				t.Errorf("P2: %+v", got)
			}
			for _, old := range [][]api.Paint{nil, {}} {
				if got, err := p.Renew(old, v.root, v.root, nil, text); err != api.OK || len(got) > 0 {
					t.Errorf("P2: %v, %v", got, err)
				}
			}
		}
	}
}

// TestInTurns is P3: painters, and trees, that are asked in turns do not see one another; and no refusal changes a painter.
func TestInTurns(t *testing.T) {
	e, other := compiled(t, calls), compiled(t, ten)
	d, _ := e.Open([]byte(longCalls))
	d.Edit(0, 5, 0, []byte("2;"))
	d.Edit(1, 0, 0, []byte("(\n"))
	var painters []*paint.Painter
	var of []version
	var want []answers
	add := func(s api.Spec, l lists, v version) {
		painters, of, want = append(painters, painter(t, s, l)), append(of, v), append(want, told(t, painter(t, s, l), v))
	}
	for n := range 3 {
		add(e.Spec(), full(), asked(t, d, n))
		add(e.Spec(), lists{styles("(V) @it", "v", "num @it", "m"), []string{"(V) @it"}, []string{"(V ~ num @name) @it"}}, asked(t, d, n))
		add(other.Spec(), lists{styles("num @it", "n"), []string{"_ @it"}, []string{"_ @it"}}, opened(t, other, "1+2;\n;"[n:]))
	}
	painters[3], painters[6] = painters[0], painters[0]
	for range 3 {
		for i := range painters {
			j := i * 4 % len(painters)
			if !same(told(t, painters[j], of[j]), want[j]) {
				t.Fatalf("P3: painter %d", j)
			}
			wantRefused(t, "in turns", painters[j], version{of[j].root, nil}, api.ErrArg)
		}
		wantRenewed(t, painters[0], of[0], of[3])
		wantRenewed(t, painters[0], of[6], of[0])
	}
}
