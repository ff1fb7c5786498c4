package pack_test

import (
	"bytes"
	"slices"
	"testing"

	"graft/api"
	"graft/pack"
)

// exampleBytes is the pack of the chapter's first example, but for its sum.
func exampleBytes() []byte {
	return []byte{'g', 'r', 'a', 'f', 't', 's', 'p', 'e', 0, 1, 1, 'S', 0, 1, 0, 0, 0}
}

// turned is a copy of bytes with another one at a place.
func turned(b []byte, at int, c byte) []byte {
	b = slices.Clone(b)
	b[at] = c
	return b
}

// TestExampleSpec is the chapter's first example.
func TestExampleSpec(t *testing.T) {
	b, err := pack.Spec(nothing())
	if err != api.OK || len(b) != 21 || !bytes.Equal(b, summed(exampleBytes())) {
		t.Errorf("P1801: % x, %v", b, err)
	}
	wantSpec(t, "example 1", nothing())
}

// TestExampleFaults is the chapter's second example.
func TestExampleFaults(t *testing.T) {
	b := summed(exampleBytes())
	for _, c := range []struct {
		what string
		b    []byte
		at   int
		err  api.Errno
	}{
		{"the pack", b, 0, api.OK},
		{"no bytes", nil, 0, api.ErrCut},
		{"no bytes, and not nil", []byte{}, 0, api.ErrCut},
		{"another word", []byte("graftdoc.."), 5, api.ErrPack},
		{"the first 20 bytes", b[:20], 20, api.ErrCut},
		{"a byte behind it", append(slices.Clone(b), 0), 21, api.ErrPack},
		{"the first byte of the sum turned", turned(b, 17, b[17]^255), 17, api.ErrSum},
		{"129 names", turned(b, 9, 129), 9, api.ErrPack},
		{"129 names, with the sum", summed(turned(exampleBytes(), 9, 129)), 9, api.ErrPack},
	} {
		wantAt(t, c.what, c.b, c.at, c.err)
	}
}

// TestExampleRule is the chapter's third example.
func TestExampleRule(t *testing.T) {
	s := withPattern(pattern(t, "[0-9]+"))
	b := packed(t, s)
	want := []byte{0, 1, 'a', 4, 1, 0, 255, 255, 1, 48, 57}
	if b[8] != 1 || !bytes.Equal(b[9:20], want) {
		t.Errorf("P1801: % x, not % x", b[9:20], want)
	}
	s.Lex[0].Trivia = true
	if b := packed(t, s); b[9] != 1 || !bytes.Equal(b[10:20], want[1:]) {
		t.Errorf("P1801: trivia: % x", b)
	}
}

// TestExampleDoc is the chapter's fourth example.
func TestExampleDoc(t *testing.T) {
	e := compiled(t, nothing())
	b, err := pack.Doc(e, opened(t, e, ""))
	want := summed(slices.Concat([]byte("graftdoc\x15\x00\x00\x00"), summed(exampleBytes()), []byte{1, 0, 0, 0, 0, 0}))
	if err != api.OK || len(b) != 43 || !bytes.Equal(b, want) {
		t.Errorf("P1803: % x, %v", b, err)
	}
	wantDocAt(t, "the pack", b, 0, api.OK)
	wantDocAt(t, "a conflict", docBytes(packed(t, read(t, ambiguous)), first("")), 12, api.ErrPack)
}
