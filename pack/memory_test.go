package pack_test

import (
	"bytes"
	"math/rand"
	"reflect"
	"slices"
	"testing"

	"graft/api"
	"graft/engine"
	"graft/pack"
)

// roomy is a list's copy with spare room behind it, in which something stands.
func roomy[T any](l []T, spare T) []T {
	return append(slices.Clone(l), spare, spare, spare)[:len(l)]
}

// whole is a list with all its room.
func whole[T any](l []T) []T { return l[:cap(l)] }

// spoil writes over a list with all its room, and appends to it.
func spoil[T any](l []T, with T) {
	for i := range whole(l) {
		whole(l)[i] = with
	}
	_ = append(l, with, with, with)
}

// roomySpec is a spec all of whose lists have spare room.
func roomySpec(s api.Spec) api.Spec {
	s.Lex = roomy(s.Lex, api.LexRule{Name: "spare"})
	for i, rule := range s.Lex {
		s.Lex[i].Expr = roomyExpr(rule.Expr)
	}
	s.Names = roomy(s.Names, "spare")
	s.Productions = roomy(s.Productions, makes(7, term(7)))
	for i, p := range s.Productions {
		s.Productions[i].Right = roomy(p.Right, term(9))
	}
	return s
}

func roomyExpr(e api.Expr) api.Expr {
	e.List = roomy(e.List, api.Expr{Kind: 77})
	for i, x := range e.List {
		e.List[i] = roomyExpr(x)
	}
	return e
}

// image is a copy of all that a spec holds, spare room too.
func image(s api.Spec) api.Spec {
	s.Lex, s.Names, s.Productions = slices.Clone(whole(s.Lex)), slices.Clone(whole(s.Names)), slices.Clone(whole(s.Productions))
	for i, rule := range s.Lex {
		s.Lex[i].Expr = imageExpr(rule.Expr)
	}
	for i, p := range s.Productions {
		s.Productions[i].Right = slices.Clone(whole(p.Right))
	}
	return s
}

func imageExpr(e api.Expr) api.Expr {
	e.List = slices.Clone(whole(e.List))
	for i, x := range e.List {
		e.List[i] = imageExpr(x)
	}
	return e
}

func spoilExpr(e api.Expr) {
	for _, x := range e.List {
		spoilExpr(x)
	}
	spoil(e.List, api.Expr{Kind: 66, Min: 5})
}

// spoilSpec writes over all lists of a spec.
func spoilSpec(s api.Spec) {
	for _, rule := range s.Lex {
		spoilExpr(rule.Expr)
	}
	for _, p := range s.Productions {
		spoil(p.Right, name(2))
	}
	spoil(s.Lex, api.LexRule{Name: "spoilt", Trivia: true})
	spoil(s.Names, "spoilt")
	spoil(s.Productions, makes(1, term(1)))
}

// TestSpecsStay is P2 of Spec: what is handed in stays as it is, its spare room too, whether it is taken or refused; what is told is the caller's own.
func TestSpecsStay(t *testing.T) {
	for _, x := range append(faults(), fault{what: "no fault", do: func(*api.Spec) {}}) {
		if x.what == "values without end" {
			continue // it has no copy
		}
		s := base(t)
		x.do(&s)
		s = roomySpec(s)
		before := image(s)
		pack.Spec(s)
		if !reflect.DeepEqual(image(s), before) {
			t.Errorf("P2: Spec has changed a spec: %s", x.what)
		}
	}
	for _, l := range languages() {
		s := roomySpec(read(t, l.spec))
		want := specBytes(s)
		one, two := packed(t, s), packed(t, s)
		spoil(one, 'z')
		if !bytes.Equal(two, want) || !bytes.Equal(packed(t, s), want) {
			t.Errorf("P2: two packs share: %s", l.spec)
		}
		spoilSpec(s)
		if !bytes.Equal(two, want) {
			t.Errorf("P2: a pack hangs on the spec: %s", l.spec)
		}
	}
}

// TestBytesStay is P2 of ReadSpec and ReadDoc: bytes stay as they are, their spare room too, whether they are taken or refused.
func TestBytesStay(t *testing.T) {
	for _, b := range slices.Concat(somePacks(t), someDocs(t)) {
		for _, x := range [][]byte{b, b[:len(b)-1], append(slices.Clone(b), 1), turned(b, len(b)/2, b[len(b)/2]+1)} {
			in := roomy(x, 0xa5)
			before := slices.Clone(whole(in))
			pack.ReadSpec(in)
			pack.ReadDoc(in)
			if !bytes.Equal(whole(in), before) {
				t.Fatalf("P2: bytes have changed: % x", x)
			}
		}
	}
}

// TestReadSpecsAreOwn is P2 of ReadSpec: a spec that is told does not hang on the bytes, and no list of it is another one's.
func TestReadSpecsAreOwn(t *testing.T) {
	for _, b := range append(somePacks(t), packed(t, withPattern(wide(30)))) {
		want, _ := specOf(b)
		in := slices.Clone(b)
		one, _, _ := pack.ReadSpec(in)
		two, _, _ := pack.ReadSpec(in)
		spoil(in, 'z')
		if !sameSpec(one, want) {
			t.Fatal("P2: a spec hangs on its pack")
		}
		spoilSpec(one)
		if !sameSpec(two, want) {
			t.Fatal("P2: two specs share")
		}
		wantApart(t, two)
		three, at, err := pack.ReadSpec(b)
		if !sameSpec(three, want) || at != 0 || err != api.OK {
			t.Fatal("P3: another spec")
		}
	}
}

// wantApart appends to each list of right sides and of parts of a spec: none other may change.
func wantApart(t *testing.T, s api.Spec) {
	t.Helper()
	want := plain(s)
	for _, rule := range s.Lex {
		appendParts(rule.Expr)
	}
	for _, p := range s.Productions {
		_ = append(p.Right, name(99))
	}
	if !sameSpec(s, want) {
		t.Fatal("P2: lists of one spec share")
	}
	if len(s.Productions) == 0 || len(s.Productions[0].Right) == 0 {
		return
	}
	spoil(s.Productions[0].Right, name(99))
	copy(want.Productions[0].Right, s.Productions[0].Right)
	if !sameSpec(s, want) {
		t.Fatal("P2: right sides of one spec share")
	}
}

func appendParts(e api.Expr) {
	_ = append(e.List, api.Expr{Kind: 99})
	for _, x := range e.List {
		appendParts(x)
	}
}

// TestDocsStay is P2 of Doc: the document stays as it is; the bytes that are told are the caller's own.
func TestDocsStay(t *testing.T) {
	r := rand.New(rand.NewSource(1810))
	for _, l := range languages() {
		e, d := grownDoc(t, r, l, 8)
		list := shots(t, d)
		one, two := packedDoc(t, e, d), packedDoc(t, e, d)
		want := slices.Clone(one)
		spoil(one, 'z')
		if !bytes.Equal(two, want) || !bytes.Equal(packedDoc(t, e, d), want) {
			t.Fatal("P2: two packs share, or hang on what was told")
		}
		if !sameShots(shots(t, d), list) || !sameSpec(e.Spec(), read(t, l.spec)) {
			t.Fatal("P2: Doc has changed the document, or its engine")
		}
	}
}

// TestReadDocsAreOwn is P2 of ReadDoc: a document does not hang on the bytes that it was read from, and two of one pack do not see one another.
func TestReadDocsAreOwn(t *testing.T) {
	r := rand.New(rand.NewSource(1811))
	for _, l := range languages() {
		e, d := grownDoc(t, r, l, 8)
		list := shots(t, d)
		in := packedDoc(t, e, d)
		want := slices.Clone(in)
		e1, d1, _, _ := pack.ReadDoc(in)
		e2, d2, _, _ := pack.ReadDoc(in)
		spoil(in, 'z')
		edit(t, d1, 3, 0, 0, l.bits[0])
		for v := range d1.Versions() {
			spoilVersion(d1, v)
		}
		spoilSpec(e1.Spec())
		if !sameShots(shots(t, d2), list) || !sameShots(shots(t, d1)[:8], list) || !bytes.Equal(packedDoc(t, e2, d2), want) {
			t.Fatal("P2: a document hangs on its pack, or on another one's")
		}
		other := opened(t, e1, l.right[0])
		if !take(t, other, 0).same(take(t, opened(t, e, l.right[0]), 0)) {
			t.Fatal("P1804: another engine")
		}
		edit(t, d2, 7, 0, 0, l.bits[0])
		wantDocBack(t, l.spec, e2, d2)
		wantDocBack(t, l.spec, e1, d1)
	}
}

// spoilVersion asks a version much, and writes over it.
func spoilVersion(d *engine.Doc, version int) {
	text, _ := d.Text(version)
	spoil(text, 'z')
	o, _ := d.From(version)
	spoil(o.Edit.Ins, 'z')
	rows, _ := d.Tree(version)
	spoil(rows, api.Row{Kind: 99})
}

// TestNilAndEmpty is P2: nil and empty lists are the same.
func TestNilAndEmpty(t *testing.T) {
	want := specBytes(api.Spec{Names: []string{""}, Productions: []api.Production{{}}})
	for _, lex := range [][]api.LexRule{nil, {}} {
		for _, right := range [][]api.Sym{nil, {}} {
			s := api.Spec{Lex: lex, Names: []string{""}, Productions: []api.Production{{Right: right}}}
			if !bytes.Equal(packed(t, s), want) {
				t.Error("P2: nil and empty lists are not the same")
			}
		}
	}
	for _, list := range [][]api.Expr{nil, {}} {
		e := span(1, 2)
		e.List = list
		wantBack(t, "nil and empty parts", withPattern(e))
		wantBack(t, "nil and empty parts", withPattern(api.Expr{Kind: api.XSeq, List: list}))
	}
	for _, b := range [][]byte{nil, {}} {
		wantAt(t, "no bytes", b, 0, api.ErrCut)
		wantDocAt(t, "no bytes", b, 0, api.ErrCut)
	}
	for _, names := range [][]string{nil, {}} {
		wantErr(t, "no names", api.Spec{Names: names}, api.ErrIndex)
	}
}

// TestInTurns is P3: packs are written and read in turns, right and wrong ones, and none sees another.
func TestInTurns(t *testing.T) {
	r := rand.New(rand.NewSource(1812))
	var engines []*engine.Engine
	var docs []*engine.Doc
	var want [][]byte
	for _, l := range languages() {
		e, d := grownDoc(t, r, l, 5)
		engines, docs, want = append(engines, e), append(docs, d), append(want, packedDoc(t, e, d))
	}
	for range 300 {
		i := r.Intn(len(docs))
		b := want[i]
		switch r.Intn(5) {
		case 0:
			if !bytes.Equal(packedDoc(t, engines[i], docs[i]), b) {
				t.Fatal("P3: another pack")
			}
		case 1:
			n := r.Intn(len(b))
			wantDocAt(t, "cut", b[:n], n, api.ErrCut)
			wantAt(t, "another word", b[:6], 5, api.ErrPack)
		case 2:
			e, d, _, err := pack.ReadDoc(b)
			if err != api.OK || !sameShots(shots(t, d), shots(t, docs[i])) {
				t.Fatalf("P3: %v", err)
			}
			engines[i], docs[i] = e, d // it goes on with the one that was read
		case 3:
			s := engines[i].Spec()
			wantBack(t, "in turns", s)
			s.Start = -1
			wantErr(t, "in turns", s, api.ErrIndex)
		case 4:
			change(t, r, languages()[i], docs[i])
			want[i] = packedDoc(t, engines[i], docs[i])
		}
	}
}
