package shell_test

import (
	"slices"
	"testing"
	"unsafe"

	"graft/api"
	"graft/shell"
)

// whole is a list with all its room.
func whole[T any](l []T) []T { return l[:cap(l)] }

// spoil writes over a list with all its room, and appends to it.
func spoil[T any](l []T, with T) {
	for i := range whole(l) {
		whole(l)[i] = with
	}
	_ = append(l, with, with, with)
}

// within says whether a text lies in the memory of another one.
func within(s, in string) bool {
	if len(s) == 0 || len(in) == 0 {
		return false
	}
	a, b := uintptr(unsafe.Pointer(unsafe.StringData(s))), uintptr(unsafe.Pointer(unsafe.StringData(in)))
	return a < b+uintptr(len(in)) && b < a+uintptr(len(s))
}

// TestWordsAreOwn is P2 of Words: lists that were answered are written over and appended to, and what is told behind that stays what it was; the words are new memory.
func TestWordsAreOwn(t *testing.T) {
	for _, line := range []string{"", "a", "a b c", `edit d 0 1 2 "x y"`, `"" "\n" "\xff" é`, "a \xff\xfe #b", "a b c d e f g h i", "\"" + "long long long long long" + "\""} {
		first, err := shell.Words(line)
		second, _ := shell.Words(line)
		if err != api.OK || !slices.Equal(first, second) {
			t.Fatalf("P3: %q: %q, then %q, %v", line, first, second, err)
		}
		want := slices.Clone(second)
		spoil(first, "spoilt")
		if !slices.Equal(second, want) {
			t.Errorf("P2: %q: two lists share memory", line)
		}
		third, _ := shell.Words(line)
		if !slices.Equal(third, want) {
			t.Errorf("P2: %q: %q behind a list that was written over, not %q", line, third, want)
		}
		for _, w := range second {
			if within(w, line) {
				t.Errorf("P2: the word %q of %q is the line's memory", w, line)
			}
		}
	}
	for _, line := range []string{`"`, "a \x00", "a b c \\"} { // P4
		if l, err := shell.Words(line); err != api.ErrCommand || len(whole(l)) > 0 {
			t.Errorf("P4: %q: %q beside %v", line, whole(l), err)
		}
	}
}

// TestQuoteKeepsNothing is P2 of Quote: the bytes stay as they are, their spare room too, and the answer does not change with them.
func TestQuoteKeepsNothing(t *testing.T) {
	for _, s := range []string{"", "a", "plain words", "\\\"\n\t\x00\xff", "é"} {
		b := append([]byte(s), "spare room"...)[:len(s)]
		got := shell.Quote(b)
		if string(whole(b))[:len(s)+10] != s+"spare room" {
			t.Errorf("P2: Quote has changed %q", whole(b))
		}
		want := quoteOf(s)
		spoil(b, 'z')
		if got != want {
			t.Errorf("P2: %q behind the bytes' change, not %q", got, want)
		}
		if again := shell.Quote([]byte(s)); again != want {
			t.Errorf("P2: %q, not %q", again, want)
		}
	}
	b := []byte("abc")
	if got := shell.Quote(b); within(got, unsafe.String(&b[0], len(b))) {
		t.Error("P2: what Quote answers is the memory of its bytes")
	}
}

// TestRunIsOwn is P2 and P3 of Run: what is told hangs on the script alone, not on what became of other scripts' answers, and is new memory.
func TestRunIsOwn(t *testing.T) {
	text := script(setting()...) + "text T 1\nspec L\n"
	want := shell.Run(text)
	for range 3 {
		got := shell.Run(text)
		if got != want {
			t.Fatalf("P3: %q, not %q", got, want)
		}
		if within(got, want) || within(got, text) {
			t.Error("P2: two answers share memory")
		}
	}
}
