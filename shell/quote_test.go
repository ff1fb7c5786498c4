package shell_test

import (
	"bytes"
	"fmt"
	"math/rand"
	"slices"
	"strings"
	"testing"

	"graft/api"
	"graft/shell"
)

// wantQuote holds what Quote answers against the model, and against Words.
func wantQuote(t testing.TB, b []byte) string {
	t.Helper()
	got := shell.Quote(b)
	if want := quoteOf(string(b)); got != want {
		t.Fatalf("P2002: Quote(%.200q): %.200s, not %.200s", b, got, want)
	}
	words, err := shell.Words(got)
	if len(got) <= api.MaxScript && (err != api.OK || !slices.Equal(words, list(string(b)))) {
		t.Fatalf("P2002: Words of Quote(%.200q): %.200q %v", b, words, err)
	}
	if len(got) > api.MaxScript && err != api.ErrLong {
		t.Fatalf("P2001: %v of %d bytes", err, len(got))
	}
	return got
}

// TestQuoteOfEach is P2002 of every byte, alone, between others, and next to every other.
func TestQuoteOfEach(t *testing.T) {
	for n := range 256 {
		c := byte(n)
		want := string([]byte{c})
		switch {
		case n == 10:
			want = `\n`
		case n == 9:
			want = `\t`
		case n == '\\' || n == '"':
			want = `\` + want
		case n < 32 || n > 126:
			want = fmt.Sprintf(`\x%x%x`, n/16, n%16)
		}
		if got := wantQuote(t, []byte{c}); got != `"`+want+`"` {
			t.Errorf("P2002: of %d: %s", n, got)
		}
		if got := wantQuote(t, []byte{'a', c, c, 'f'}); got != `"a`+want+want+`f"` {
			t.Errorf("P2002: of %d twice: %s", n, got)
		}
		for other := range 256 {
			wantQuote(t, []byte{c, byte(other)})
		}
	}
	for _, b := range [][]byte{nil, {}, make([]byte, 0, 9)} {
		if got := wantQuote(t, b); got != `""` {
			t.Errorf("P2002: of nothing: %s", got)
		}
	}
	wantQuote(t, []byte("é世\U0010ffff\ufffd")) // byte by byte, whatever they are together
	if got := shell.Quote([]byte("é")); got != `"\xc3\xa9"` {
		t.Errorf("P2002: %s", got)
	}
}

// TestDrawnQuotes is P2002 of rows of any bytes.
func TestDrawnQuotes(t *testing.T) {
	r := rand.New(rand.NewSource(2002))
	for range 5000 {
		b := make([]byte, r.Intn(40))
		r.Read(b)
		wantQuote(t, b)
		for i := range b {
			b[i] = "\\\"\n\tnx4a \x7f\x80\xff"[r.Intn(12)]
		}
		wantQuote(t, b)
	}
}

// TestLongQuotes is P2002's last sentence: a word of MaxScript bytes is read again, one of a byte more is too long.
func TestLongQuotes(t *testing.T) {
	for _, c := range []struct {
		unit string
		size int // of a unit, quoted
	}{{"x", 1}, {" ", 1}, {"\n", 2}, {"\\", 2}, {"\"", 2}, {"\x00", 4}, {"\xff", 4}, {"\x7f", 4}, {"é", 8}} {
		most := (api.MaxScript - 2) / c.size
		left := (api.MaxScript - 2) % c.size
		b := bytes.Repeat([]byte(c.unit), most)
		b = append(b, strings.Repeat("y", left)...)
		if got := wantQuote(t, b); len(got) != api.MaxScript {
			t.Errorf("P2002: %d bytes, not %d", len(got), api.MaxScript)
		}
		if got := wantQuote(t, append(b, 'y')); len(got) != api.MaxScript+1 {
			t.Errorf("P2002: %d bytes, not %d", len(got), api.MaxScript+1)
		}
	}
	if got := shell.Quote(bytes.Repeat([]byte{1}, api.MaxRope)); len(got) != 4*api.MaxRope+2 || got[:10] != `"\x01\x01\` {
		t.Errorf("P2002: %d bytes", len(got))
	}
}
