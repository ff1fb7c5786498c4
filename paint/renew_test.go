package paint_test

import (
	"bytes"
	"math/rand"
	"slices"
	"strings"
	"testing"

	"graft/api"
	"graft/paint"
	"graft/parse"
	"graft/relex"
	"graft/reuse"
	"graft/rope"
	"graft/scan"
	"graft/states"
	"graft/table"
	"graft/tree"
)

// wantRenewed is P1605: what Renew tells of two versions is what Paints tells of the second.
func wantRenewed(t *testing.T, p *paint.Painter, was, now version) {
	t.Helper()
	old, e := p.Paints(was.root, was.text)
	if e != api.OK {
		t.Fatal(e)
	}
	kept := slices.Clone(old)
	want, e := p.Paints(now.root, now.text)
	got, e2 := p.Renew(old, was.root, now.root, was.text, now.text)
	if e != e2 || !slices.Equal(got, want) {
		t.Errorf("P1605: from %.100q to %.100q: %s, %v, want %s, %v", was.text, now.text, short(got), e2, short(want), e)
	}
	if !slices.Equal(old, kept) {
		t.Error("P2: Renew has changed the old paints")
	}
}

// TestRenewed is P1605 for all pairs of versions of documents: forward, backward, between branches, and a version with itself.
func TestRenewed(t *testing.T) {
	r := rand.New(rand.NewSource(1605))
	met := map[string]int{}
	for _, x := range languages() {
		e := compiled(t, x.spec)
		for range 8 {
			d := grown(t, r, e, x, 12)
			g := &guesser{r: r, s: e.Spec(), text: x.text}
			l := g.lists()
			l.styles = append(l.styles, api.Style{Query: g.query(), Name: "z"})
			p := painter(t, e.Spec(), l)
			for i := range d.Versions() {
				for j := range d.Versions() {
					was, now := asked(t, d, i), asked(t, d, j)
					wantRenewed(t, p, was, now)
					met[kindOf(was.root)+" to "+kindOf(now.root)]++
					if i != j && bytes.Equal(was.text, now.text) {
						met["the same text"]++
					}
				}
			}
			wantChain(t, p, d.Versions(), func(n int) version { return asked(t, d, n) })
		}
	}
	wantMet(t, met, 20, "right to right", "right to wrong", "right to broken", "wrong to right", "wrong to wrong", "wrong to broken", "broken to right", "broken to wrong", "broken to broken", "the same text")
}

// wantChain is P1605 with what Renew told of the version ahead, instead of Paints.
func wantChain(t *testing.T, p *paint.Painter, versions int, at func(n int) version) {
	t.Helper()
	was := at(0)
	old, _ := p.Paints(was.root, was.text)
	for n := range versions {
		now := at(n)
		got, e := p.Renew(old, was.root, now.root, was.text, now.text)
		if want, _ := p.Paints(now.root, now.text); e != api.OK || !slices.Equal(got, want) {
			t.Fatalf("P1605: from %q to %q: %v, %v, want %v", was.text, now.text, got, e, want)
		}
		was, old = now, got
	}
}

// TestRenewByHand is P1605 for edits of each kind: at the ends, within trivia, errors made and mended, all of the text, nothing of it; with styles that hang on what stands above, ahead and behind.
func TestRenewByHand(t *testing.T) {
	e := compiled(t, ten)
	p := painter(t, e.Spec(), lists{styles: styles("num @it", "n", "(E) @it", "e", "(!) @it", "bad", "(S (E (E) plus (T num @it)))", "last", "(L . (L .) (S ~ num @it))", "first", `(S ~ plus) ^ "1" @it`, "one", "(_ (L (L) (S) @it) $)", "at the end")})
	const text = " 1 + 2;3;  4+5 ;#;"
	for _, c := range []struct {
		what string
		edit api.Edit
	}{
		{"nothing", api.Edit{At: 3}},
		{"nothing, at the end", api.Edit{At: len(text)}},
		{"at the front", api.Edit{Ins: []byte("9;")}},
		{"trivia at the front", api.Edit{Ins: []byte("  ")}},
		{"trivia at the front taken out", api.Edit{Del: 1}},
		{"at the end", api.Edit{At: len(text), Ins: []byte("7;")}},
		{"trivia at the end", api.Edit{At: len(text), Ins: []byte("  ")}},
		{"the last byte", api.Edit{At: len(text) - 1, Del: 1}},
		{"trivia", api.Edit{At: 3, Ins: []byte(" ")}},
		{"trivia taken out", api.Edit{At: 9, Del: 2}},
		{"another number", api.Edit{At: 7, Del: 1, Ins: []byte("8")}},
		{"an error", api.Edit{At: 5, Del: 1}},
		{"an error mended", api.Edit{At: 16, Del: 1, Ins: []byte("6")}},
		{"far from what hangs on it", api.Edit{At: 1, Del: 1, Ins: []byte("2")}},
		{"all of it another", api.Edit{Del: len(text), Ins: []byte("7+7;")}},
		{"all of it anew", api.Edit{Del: len(text), Ins: []byte(text)}},
		{"all of it out", api.Edit{Del: len(text)}},
		{"broken", api.Edit{At: len(text), Ins: []byte("7")}},
	} {
		d, _ := e.Open([]byte(text))
		n, err := d.Edit(0, c.edit.At, c.edit.Del, c.edit.Ins)
		if err != api.OK {
			t.Fatalf("%s: %v", c.what, err)
		}
		was, now := asked(t, d, 0), asked(t, d, n)
		wantRenewed(t, p, was, now)
		wantRenewed(t, p, now, was)
		wantRenewed(t, p, now, now)
		if t.Failed() {
			t.Fatal(c.what)
		}
	}
}

// TestRenewRefused is ErrArg of each of Renew's texts, and ErrTries of the new tree.
func TestRenewRefused(t *testing.T) {
	e := compiled(t, ten)
	d, _ := e.Open([]byte("1;"))
	d.Edit(0, 2, 0, []byte("2+3;"))
	d.Edit(0, 0, 2, nil)
	p := painter(t, e.Spec(), lists{styles: styles("num @it", "n")})
	for _, pair := range [][2]int{{0, 1}, {1, 0}, {0, 0}, {2, 1}, {1, 2}, {2, 2}} {
		was, now := asked(t, d, pair[0]), asked(t, d, pair[1])
		old, _ := p.Paints(was.root, was.text)
		for _, before := range [][]byte{append(slices.Clone(was.text), 'x'), was.text[:max(0, len(was.text)-1)], nil, was.text} {
			for _, text := range [][]byte{append(slices.Clone(now.text), 'x'), now.text[:max(0, len(now.text)-1)], nil, now.text} {
				got, err := p.Renew(old, was.root, now.root, before, text)
				if wrong := len(before) != len(was.text) || len(text) != len(now.text); wrong != (err == api.ErrArg) || wrong && len(got) > 0 {
					t.Errorf("P1605: %q and %q, of %q and %q: %v, %v", before, text, was.text, now.text, got, err)
				}
			}
		}
	}
	long := []byte(strings.Repeat("+", 2000))
	d, _ = e.Open([]byte("1;"))
	d.Edit(0, 0, 0, long)
	p = painter(t, e.Spec(), lists{styles: styles("num @it", "n", "(_ plus plus @it)", "p")})
	was, now := asked(t, d, 0), asked(t, d, 1)
	old, _ := p.Paints(was.root, was.text)
	if got, err := p.Renew(old, was.root, now.root, was.text, now.text); err != api.ErrTries || len(got) > 0 {
		t.Errorf("P1605: %s, %v", short(got), err)
	}
}

// page is a text with its tree, of which all nodes are of one store, as all trees' that are made out of it by chapter 12.
type page struct {
	scanner *scan.Scanner
	table   *table.Table
	store   *tree.Store
	leaves  []api.Leaf
	version
}

// newPage reads a text of a language.
func newPage(t *testing.T, language, text string) *page {
	t.Helper()
	s := readSpec(t, language)
	x := &page{store: tree.New(), version: version{text: []byte(text)}}
	var f api.Fault
	if x.scanner, f = scan.New(s.Lex); f != (api.Fault{}) {
		t.Fatal(f)
	}
	a, f := states.Build(s)
	if f != (api.Fault{}) {
		t.Fatal(f)
	}
	var e api.Errno
	if x.table, e = table.Make(a); e != api.OK {
		t.Fatal(e)
	}
	r, _ := rope.New(x.text)
	x.leaves = x.scanner.Leaves(r)
	if x.root, _, e = parse.Build(x.table, x.store, x.leaves); e != api.OK {
		t.Fatal(e)
	}
	return x
}

// again is the page with another text, made out of this one with some leaves kept.
func (x *page) again(t *testing.T, text string, leaves []api.Leaf, ahead, behind int) *page {
	t.Helper()
	n := *x
	n.text, n.leaves = []byte(text), leaves
	var e api.Errno
	if n.root, _, e = reuse.Parse(x.table, x.store, x.root, leaves, ahead, behind); e != api.OK {
		t.Fatal(e)
	}
	return &n
}

// edited is the page behind an edit, with all leaves kept that chapter 5 keeps.
func (x *page) edited(t *testing.T, edit api.Edit) *page {
	t.Helper()
	r, _ := rope.New(x.text)
	next, e := r.Splice(edit.At, edit.Del, edit.Ins)
	if e != api.OK {
		t.Fatal(e)
	}
	leaves, ahead, behind, e := relex.Relex(x.scanner, x.leaves, next, edit)
	if e != api.OK {
		t.Fatal(e)
	}
	return x.again(t, string(next.Bytes()), leaves, ahead, behind)
}

// TestRenewByReuse is P1605 for trees that reuse.Parse made: with all leaves kept, some, and none.
func TestRenewByReuse(t *testing.T) {
	r := rand.New(rand.NewSource(12))
	for _, x := range languages() {
		s := readSpec(t, x.spec)
		for range 10 {
			g := &guesser{r: r, s: s, text: x.text}
			p := painter(t, s, lists{styles: styles(g.query(), "a", g.query(), "b", g.query(), "a")})
			was := newPage(t, x.spec, x.text)
			for range 10 {
				now := was.edited(t, randomEdit(r, len(was.text), x.bytes))
				wantRenewed(t, p, was.version, now.version)
				wantRenewed(t, p, now.version, was.version)
				wantRenewed(t, p, now.version, now.again(t, string(now.text), now.leaves, len(now.leaves), 0).version)
				wantRenewed(t, p, now.version, now.again(t, string(now.text), now.leaves, 0, 0).version)
				was = now
			}
		}
	}
}

// TestRenewOtherBytes is P1605 where the nodes are the same, but the bytes are others: the text counts.
func TestRenewOtherBytes(t *testing.T) {
	p := painter(t, readSpec(t, ten), lists{styles: styles("num @it", "n", `num = "2" @it`, "two")})
	was := newPage(t, ten, "1;2;1;")
	now := was.again(t, "2;1;1;", was.leaves, len(was.leaves), 0)
	wantRenewed(t, p, was.version, now.version)
	wantRenewed(t, p, now.version, was.version)
	wantPaints(t, "other bytes", p, now.version, row(0, 1, "two"), row(2, 3, "n"), row(4, 5, "n"))
}
