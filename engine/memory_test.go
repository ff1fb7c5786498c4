package engine_test

import (
	"reflect"
	"slices"
	"testing"

	"graft/api"
	"graft/engine"
)

// roomy is a list's copy with spare room behind it, in which something stands.
func roomy[T any](l []T, spare T) []T {
	return append(slices.Clone(l), spare, spare, spare)[:len(l)]
}

// whole is a list with all its room.
func whole[T any](l []T) []T { return l[:cap(l)] }

// roomySpec is a spec all of whose lists have spare room.
func roomySpec(s api.Spec) api.Spec {
	s.Lex = roomy(s.Lex, api.LexRule{Name: "spare"})
	for i, rule := range s.Lex {
		s.Lex[i].Expr = roomyExpr(rule.Expr)
	}
	s.Names = roomy(s.Names, "spare")
	s.Productions = roomy(s.Productions, makes(7, term(7)))
	for i, p := range s.Productions {
		s.Productions[i].Right = roomy(p.Right, term(9))
	}
	return s
}

func roomyExpr(e api.Expr) api.Expr {
	e.List = roomy(e.List, api.Expr{Kind: 77})
	for i, x := range e.List {
		e.List[i] = roomyExpr(x)
	}
	return e
}

// image is a copy of all that a spec holds, spare room too.
func image(s api.Spec) api.Spec {
	s.Lex, s.Names, s.Productions = slices.Clone(whole(s.Lex)), slices.Clone(whole(s.Names)), slices.Clone(whole(s.Productions))
	for i, rule := range s.Lex {
		s.Lex[i].Expr = imageExpr(rule.Expr)
	}
	for i, p := range s.Productions {
		s.Productions[i].Right = slices.Clone(whole(p.Right))
	}
	return s
}

func imageExpr(e api.Expr) api.Expr {
	e.List = slices.Clone(whole(e.List))
	for i, x := range e.List {
		e.List[i] = imageExpr(x)
	}
	return e
}

// plainSpec is a copy of a spec without spare room, and with no list that is empty and not nil.
func plainSpec(s api.Spec) api.Spec {
	s.Lex, s.Names, s.Productions = append([]api.LexRule(nil), s.Lex...), append([]string(nil), s.Names...), append([]api.Production(nil), s.Productions...)
	for i, rule := range s.Lex {
		s.Lex[i].Expr = plainExpr(rule.Expr)
	}
	for i, p := range s.Productions {
		s.Productions[i].Right = append([]api.Sym(nil), p.Right...)
	}
	return s
}

func plainExpr(e api.Expr) api.Expr {
	e.List = append([]api.Expr(nil), e.List...)
	for i, x := range e.List {
		e.List[i] = plainExpr(x)
	}
	return e
}

func sameSpec(a, b api.Spec) bool { return reflect.DeepEqual(plainSpec(a), plainSpec(b)) }

// spoil writes over a list with all its room, and appends to it.
func spoil[T any](l []T, with T) {
	for i := range whole(l) {
		whole(l)[i] = with
	}
	_ = append(l, with, with, with)
}

func spoilExpr(e api.Expr) {
	for _, x := range e.List {
		spoilExpr(x)
	}
	spoil(e.List, api.Expr{Kind: 66, Min: 5})
}

// spoilSpec writes over all lists of a spec.
func spoilSpec(s api.Spec) {
	for _, rule := range s.Lex {
		spoilExpr(rule.Expr)
	}
	for _, p := range s.Productions {
		spoil(p.Right, name(2))
	}
	spoil(s.Lex, api.LexRule{Name: "spoilt", Trivia: true})
	spoil(s.Names, "spoilt")
	spoil(s.Productions, makes(1, term(1)))
}

// TestSpec is P1301 and P2: the spec is told as it was, whatever is done to the one that was handed in, or to one that was told; and so are documents.
func TestSpec(t *testing.T) {
	for _, text := range languages() {
		want, own := read(t, text), roomySpec(read(t, text))
		before := image(own)
		e, f := engine.Compile(own)
		if f != (api.Fault{}) {
			t.Fatal(f)
		}
		if !reflect.DeepEqual(image(own), before) {
			t.Errorf("P2: Compile has changed %s", text)
		}
		told := take(t, opened(t, e, "x;1 a"), 0)
		spoilSpec(own)
		for range 2 {
			first, second := e.Spec(), e.Spec()
			if !sameSpec(first, want) {
				t.Errorf("P1301: %+v, not %+v", first, want)
			}
			spoilSpec(first)
			if !sameSpec(second, want) {
				t.Errorf("P2: two answers share: %s", text)
			}
			if !take(t, opened(t, e, "x;1 a"), 0).alike(told) {
				t.Errorf("P2: documents hang on the spec: %s", text)
			}
		}
	}
}

// TestSpecsStay is P2 of specs that are not taken.
func TestSpecsStay(t *testing.T) {
	for _, x := range faults(t) {
		s := base(t)
		x.do(&s)
		if x.what == "values without end" {
			continue // it has no copy
		}
		s = roomySpec(s)
		before := image(s)
		engine.Compile(s)
		if !reflect.DeepEqual(image(s), before) {
			t.Errorf("P2: Compile has changed a spec: %s", x.what)
		}
	}
}

// texts are right and wrong ones of the examples' language.
func texts() []string {
	return []string{"", "1;", "1+1;1;", "1 1;", ";", " 1;#;1;", "1", "1;  1", "1+;1;"}
}

// TestBytesStay is P2 of Open and Edit: the bytes that are handed in, and their spare room, stay as they are, and are not kept.
func TestBytesStay(t *testing.T) {
	e := compiled(t, ten)
	for _, a := range texts() {
		for _, b := range texts() {
			first, second := roomy([]byte(a), 'x'), roomy([]byte(b), 'y')
			d, err := e.Open(first)
			if err != api.OK {
				t.Fatal(err)
			}
			w := watching(e, nil, d)
			w.follow(t, a, api.Origin{Parent: -1, Edit: api.Edit{Ins: []byte(a)}})
			half := len(a) / 2
			if n, err := d.Edit(0, half, len(a)-half, second); n != 1 || err != api.OK {
				t.Fatal(err)
			}
			w.follow(t, a[:half]+b, api.Origin{Edit: api.Edit{At: half, Del: len(a) - half, Ins: []byte(b)}})
			if string(whole(first)[:len(a)+3]) != a+"xxx" || string(whole(second)[:len(b)+3]) != b+"yyy" {
				t.Errorf("P2: %q and %q are %q and %q", a, b, whole(first), whole(second))
			}
			spoil(first, 'z')
			spoil(second, 'z')
			w.stays(t)
		}
	}
}

// TestAnswersAreOwn is P2: what is told may be written over, and appended to; what is told behind that is the same.
func TestAnswersAreOwn(t *testing.T) {
	d := watched(t, compiled(t, ten), nil, "1;")
	for _, text := range texts() {
		from := len(d.shots) - 1
		d.edit(t, from, api.Edit{At: len(d.shots[from].text) / 2, Del: len(d.shots[from].text) / 3, Ins: []byte(text)})
		for i := range d.shots {
			spoilVersion(d.d, i)
		}
		d.stays(t)
	}
}

// spoilVersion asks a version everything, and writes over it.
func spoilVersion(d *engine.Doc, version int) {
	text, _ := d.Text(version)
	spoil(text, 'z')
	r, _ := d.Rope(version)
	spoil(r.Bytes(), 'z')
	leaves, _ := d.Leaves(version)
	spoil(leaves, api.Leaf{Kind: 99, Skip: -7})
	rows, _ := d.Tree(version)
	spoil(rows, api.Row{Kind: 99, Id: -7})
	root, _ := d.Root(version)
	spoil(root.Rows(), api.Row{Kind: 99, Id: -7})
	errors, _ := d.Errors(version)
	spoil(errors, at(-1, -2))
	o, _ := d.From(version)
	spoil(o.Edit.Ins, 'z')
}

// TestTwoAnswers is P2: no two answers share memory.
func TestTwoAnswers(t *testing.T) {
	d := watched(t, compiled(t, ten), nil, " 1 1;;")
	d.edit(t, 0, api.Edit{At: 1, Ins: []byte("#;1 2;")})
	for i, want := range d.shots {
		first, second := take(t, d.d, i), take(t, d.d, i)
		spoil(first.leaves, api.Leaf{Kind: 99})
		spoil(first.rows, api.Row{Kind: 99})
		spoil(first.errors, at(-1, -2))
		spoil(first.edit.Ins, 'z')
		if !second.same(want) {
			t.Errorf("P2: version %d: two answers share", i)
		}
	}
}

// TestNilAndEmpty is P2: nil and empty lists are the same.
func TestNilAndEmpty(t *testing.T) {
	e := compiled(t, ten)
	a, err := e.Open(nil)
	if a == nil || err != api.OK {
		t.Fatal(err)
	}
	b := opened(t, e, "")
	for _, ins := range [][]byte{nil, {}} {
		for _, d := range []*engine.Doc{a, b} {
			if _, err := d.Edit(0, 0, 0, ins); err != api.OK {
				t.Error(err)
			}
		}
	}
	for i := range 3 {
		if x, y := take(t, a, i), take(t, b, i); !x.alike(y) || x.text != "" {
			t.Errorf("P2: version %d: %v and %v", i, x, y)
		}
	}
}
