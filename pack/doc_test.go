package pack_test

import (
	"bytes"
	"slices"
	"strings"
	"testing"

	"graft/api"
	"graft/engine"
	"graft/pack"
)

// oneLeaf is a language in which a text, however long, is one leaf.
const oneLeaf = `token all = /.+/; start S; S = all | ;`

// wantNoDoc is a document that has no pack.
func wantNoDoc(t *testing.T, what string, e *engine.Engine, d *engine.Doc, want api.Errno) {
	t.Helper()
	if b, err := pack.Doc(e, d); len(b) > 0 || err != want {
		t.Errorf("P1803: %s: %d bytes, %v, not %v", what, len(b), err, want)
	}
}

// TestDocBytes is P1803 of a document by hand, each byte of it.
func TestDocBytes(t *testing.T) {
	e := compiled(t, nothing())
	d := opened(t, e, "ab")
	edit(t, d, 0, 1, 1, "")
	edit(t, d, 0, 2, 0, strings.Repeat("c", 300))
	edit(t, d, 2, 258, 3, "\x00\xff")
	want := slices.Concat([]byte("graftdoc\x15\x00\x00\x00"), summed(exampleBytes()), []byte{4, 0},
		[]byte{2, 0, 0, 0, 'a', 'b'},
		[]byte{0, 0, 1, 0, 0, 0, 1, 0, 0, 0, 0, 0, 0, 0},
		[]byte{0, 0, 2, 0, 0, 0, 0, 0, 0, 0, 44, 1, 0, 0}, bytes.Repeat([]byte{'c'}, 300),
		[]byte{2, 0, 2, 1, 0, 0, 3, 0, 0, 0, 2, 0, 0, 0, 0, 255})
	if b := packedDoc(t, e, d); !bytes.Equal(b, summed(want)) {
		t.Errorf("P1803: % x, not % x", b, summed(want))
	}
	wantDocBack(t, "by hand", e, d)
}

// TestDocNames is P1803: Compile takes names of any length, Spec does not.
func TestDocNames(t *testing.T) {
	for _, do := range []func(s *api.Spec){
		func(s *api.Spec) { s.Names[1] = long(api.MaxName + 1) },
		func(s *api.Spec) { s.Lex[0].Name = long(1 << 20) },
		func(s *api.Spec) { s.Lex[3].Name, s.Names[0] = long(api.MaxName+1), long(300) },
	} {
		s := read(t, ten)
		do(&s)
		e := compiled(t, s)
		wantNoDoc(t, "names too long", e, opened(t, e, "1;"), api.ErrLong)
	}
	s := read(t, ten)
	for i := range s.Names {
		s.Names[i] = strings.Repeat("\xfe", api.MaxName)
	}
	for i := range s.Lex {
		s.Lex[i].Name = ""
	}
	e := compiled(t, s)
	wantDocBack(t, "names as long as may be", e, opened(t, e, "1;"))
}

// heavy is a document whose pack lacks so many bytes of MaxPack, and its engine.
func heavy(t testing.TB, lacks int) (*engine.Engine, *engine.Doc) {
	t.Helper()
	e := compiled(t, read(t, oneLeaf))
	full := strings.Repeat("x", api.MaxText)
	d := opened(t, e, full)
	size := len(packedDoc(t, e, d))
	for size+14+api.MaxText <= api.MaxPack-lacks {
		edit(t, d, 0, 0, api.MaxText, full)
		size += 14 + api.MaxText
	}
	edit(t, d, 0, 0, api.MaxText, full[:api.MaxPack-lacks-size-14])
	return e, d
}

// TestMostPacked is P1803, P1804 and P1805: a document of MaxPack bytes, and of one more.
func TestMostPacked(t *testing.T) {
	t.Parallel()
	e, d := heavy(t, 14)
	b := packedDoc(t, e, d)
	if len(b) != api.MaxPack-14 {
		t.Fatalf("%d bytes", len(b))
	}
	e2, d2, at, err := pack.ReadDoc(b)
	if d2 == nil || at != 0 || err != api.OK {
		t.Fatalf("P1804: %d %v", at, err)
	}
	edit(t, d, 0, 0, 0, "") // of 14 bytes
	full := packedDoc(t, e, d)
	if len(full) != api.MaxPack {
		t.Fatalf("P1803: %d bytes", len(full))
	}
	if _, d3, at, err := pack.ReadDoc(full); d3 == nil || d3.Versions() != d.Versions() || at != 0 || err != api.OK {
		t.Errorf("P1804: %d %v", at, err)
	}
	edit(t, d2, 0, 0, 1, "y") // of 15 bytes
	wantNoDoc(t, "one byte more", e2, d2, api.ErrLong)
	edit(t, d, 0, 0, 0, "")
	wantNoDoc(t, "14 bytes more", e, d, api.ErrLong)
	if e, d, at, err := pack.ReadDoc(append(full, 0)); e != nil || d != nil || at != 0 || err != api.ErrLong {
		t.Errorf("P1804: a byte more: %d %v", at, err)
	}
}

// TestMostVersions is P1803 to P1805: a document of MaxVersions versions.
func TestMostVersions(t *testing.T) {
	t.Parallel()
	e := compiled(t, read(t, ten))
	d := opened(t, e, "1;")
	for v := range api.MaxVersions - 1 {
		edit(t, d, v*5/6, v%3, 0, []string{"2;", "+", "", " "}[v%4])
	}
	_, d2 := wantDocBack(t, "MaxVersions", e, d)
	if n, err := d2.Edit(0, 0, 0, nil); n != 0 || err != api.ErrFull {
		t.Errorf("P1807: %d %v", n, err)
	}
}

// TestLongDocs is P1 and P1805 of long texts, flat and deep, right and wrong.
func TestLongDocs(t *testing.T) {
	t.Parallel()
	const pairs = "token l = /l/; token r = /r/; token x = /x/; start S; S = l S r | x | error;"
	half := api.MaxText/8 - 1
	for _, c := range []struct{ what, spec, text string }{
		{"deep", pairs, strings.Repeat("l", half) + "x" + strings.Repeat("r", half)},
		{"deep, never closed", pairs, strings.Repeat("l", 2*half)},
		{"flat", ten, strings.Repeat("1;", half)},
		{"bad bytes alone", ten, strings.Repeat("\xff", 2*half)},
		{"one leaf", oneLeaf, strings.Repeat("\x00", api.MaxText)},
	} {
		e := compiled(t, read(t, c.spec))
		d := opened(t, e, c.text)
		edit(t, d, 0, len(c.text)/2, 1, "")
		edit(t, d, 1, 0, len(c.text)-1, "x")
		edit(t, d, 0, len(c.text), 0, "")
		wantDocBack(t, c.what, e, d)
	}
}
