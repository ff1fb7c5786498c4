package pack_test

import (
	"bytes"
	"math/rand"
	"slices"
	"testing"

	"graft/api"
	"graft/pack"
)

// somePacks are packs of specs of many kinds, none of them long.
func somePacks(t testing.TB) [][]byte {
	t.Helper()
	var list [][]byte
	for _, l := range languages() {
		list = append(list, packed(t, read(t, l.spec)))
	}
	r := rand.New(rand.NewSource(1802))
	for len(list) < 30 {
		if b := packed(t, wild(r)); len(b) < 300 {
			list = append(list, b)
		}
	}
	return append(list, packed(t, nothing()), packed(t, base(t)), packed(t, read(t, ambiguous)))
}

// TestCut is P1802 and P1806: a pack that is cut anywhere ends too early, at its length, and nowhere else.
func TestCut(t *testing.T) {
	for _, b := range append(somePacks(t), packed(t, withPattern(nest(api.MaxNest))), packed(t, withPattern(wide(300)))) {
		for n := range b {
			wantAt(t, "cut", b[:n], n, api.ErrCut)
		}
		wantAt(t, "whole", b, 0, api.OK)
	}
}

// TestBehind is P1802: bytes behind a pack are none of it.
func TestBehind(t *testing.T) {
	for _, b := range somePacks(t) {
		for _, more := range [][]byte{{0}, {255}, {1, 2, 3, 4}, b, summed(b)[len(b):], make([]byte, 100)} {
			wantAt(t, "bytes behind", slices.Concat(b, more), len(b), api.ErrPack)
		}
		wrong := turned(b, len(b)-1, b[len(b)-1]+1)
		wantAt(t, "a wrong sum and bytes behind", append(wrong, 0), len(b)-4, api.ErrSum)
		wantAt(t, "the sum of a longer row", append(summed(append(slices.Clone(b[:len(b)-4]), 0)), 9), len(b)-4, api.ErrSum)
	}
}

// TestEachByte turns each byte of packs to each other value, with the sum put right behind that and not.
func TestEachByte(t *testing.T) {
	t.Parallel()
	met := map[api.Errno]int{}
	for _, b := range somePacks(t) {
		if len(b) > 105 {
			continue
		}
		for at := range b {
			for c := range 256 {
				turn := turned(b, at, byte(c))
				bad := wantRead(t, "a byte turned", turn)
				if (bad.err == api.OK) != (byte(c) == b[at]) {
					t.Fatalf("P1806: byte %d as %d: %+v", at, c, bad)
				}
				met[bad.err]++
				bad = wantRead(t, "a byte turned, with the sum", resummed(turn))
				met[bad.err]++
			}
		}
	}
	for _, err := range []api.Errno{api.OK, api.ErrPack, api.ErrCut, api.ErrSum} {
		if met[err] < 1000 {
			t.Errorf("too few packs: %v: %d", err, met[err])
		}
	}
}

// TestTwoBytes turns two bytes at once, cuts what is left, and puts bytes in and behind: two faults and more hold at once.
func TestTwoBytes(t *testing.T) {
	r := rand.New(rand.NewSource(1803))
	list := somePacks(t)
	met := map[api.Errno]int{}
	for range 150000 {
		b := slices.Clone(list[r.Intn(len(list))])
		for range 1 + r.Intn(3) {
			at := r.Intn(len(b))
			c := []byte{0, 1, 2, 3, 4, 5, 64, 65, 128, 129, 255, b[at] + 1, b[at] - 1, byte(r.Intn(256))}[r.Intn(14)]
			switch r.Intn(4) {
			case 0:
				b = slices.Insert(b, at, c)
			case 1:
				b = append(b[:at], b[at+1:]...)
			default:
				b[at] = c
			}
		}
		switch r.Intn(4) {
		case 0:
			b = b[:r.Intn(len(b)+1)]
		case 1:
			b = resummed(b)
		case 2:
			b = summed(b)
		}
		met[wantRead(t, "bytes turned", b).err]++
	}
	for _, err := range []api.Errno{api.OK, api.ErrPack, api.ErrCut, api.ErrSum} {
		if met[err] < 100 {
			t.Errorf("too few packs: %v: %d", err, met[err])
		}
	}
}

// TestNoise reads bytes of any kind behind the right beginning.
func TestNoise(t *testing.T) {
	r := rand.New(rand.NewSource(1804))
	for range 50000 {
		b := make([]byte, r.Intn(60))
		for i := range b {
			b[i] = []byte{0, 0, 1, 1, 2, 3, 4, byte(r.Intn(256))}[r.Intn(8)]
		}
		wantRead(t, "noise", b)
		wantRead(t, "noise behind the word", append([]byte("graftspe"), b...))
		wantRead(t, "noise with its sum", summed(append([]byte("graftspe"), b...)))
		wantRead(t, "noise as a pattern", ruled(b...))
	}
}

// ruled is a pack, but for its sum, of one rule a with the pattern's bytes, which begin at 12.
func ruled(pattern ...byte) []byte {
	b := append([]byte("graftspe\x01\x00\x01a"), pattern...)
	return append(b, 1, 1, 'S', 0, 1, 0, 0, 0)
}

// TestWord is P1802: the first eight bytes, each by itself and one after the other.
func TestWord(t *testing.T) {
	b := packed(t, nothing())
	for i := range 8 {
		for _, rest := range [][]byte{b, b[:i+1], b[:min(i+2, 21)]} {
			wantAt(t, "another byte", turned(rest, i, 'x'), i, api.ErrPack)
			wantAt(t, "another byte", turned(rest, i, rest[i]^0x20), i, api.ErrPack)
		}
		wantAt(t, "cut", b[:i], i, api.ErrCut)
		for j := i + 1; j < 8; j++ {
			wantAt(t, "two other bytes", turned(turned(b, j, 0), i, 0), i, api.ErrPack)
		}
	}
	wantAt(t, "a document's pack", docBytes(b, first("")), 5, api.ErrPack)
	wantAt(t, "the word alone", []byte("graftspe"), 8, api.ErrCut)
}

// TestNumbers is P1802: each number at its limit, and one above.
func TestNumbers(t *testing.T) {
	b := exampleBytes()
	rows := func(list ...[]byte) []byte { return slices.Concat(list...) }
	rule, nameless, production := []byte{0, 0, 1, 97, 97}, []byte{0}, []byte{0, 0}
	tail := b[9:] // a name, its start, a production
	symbols := func(count byte, list ...byte) []byte { return append(append(slices.Clone(b[:16]), count), list...) }
	for _, c := range []struct {
		what string
		b    []byte
		at   int
		err  api.Errno
	}{
		{"64 rules", summed(rows(b[:8], []byte{64}, bytes.Repeat(rule, 64), tail)), 0, api.OK},
		{"65 rules", summed(rows(b[:8], []byte{65}, bytes.Repeat(rule, 65), tail)), 8, api.ErrPack},
		{"65 rules, cut behind the number", rows(b[:8], []byte{65}), 8, api.ErrPack},
		{"255 rules", rows(b[:8], []byte{255}), 8, api.ErrPack},
		{"64 rules, cut behind the number", rows(b[:8], []byte{64}), 9, api.ErrCut},
		{"128 names", summed(rows(b[:9], []byte{128}, bytes.Repeat(nameless, 128), []byte{127, 1, 0, 127, 1, 3, 127})), 0, api.OK},
		{"129 names", summed(rows(b[:9], []byte{129}, bytes.Repeat(nameless, 129), []byte{127, 0, 0})), 9, api.ErrPack},
		{"no names: there is no start", summed(rows(b[:9], []byte{0, 0, 0, 0})), 10, api.ErrPack},
		{"no names, cut behind the start", rows(b[:9], []byte{0, 0}), 10, api.ErrPack},
		{"no names, cut ahead of the start", rows(b[:9], []byte{0}), 10, api.ErrCut},
		{"a start that is none", summed(turned(b, 12, 1)), 12, api.ErrPack},
		{"a start of 255", summed(turned(b, 12, 255)), 12, api.ErrPack},
		{"512 productions", summed(rows(b[:13], []byte{0, 2}, bytes.Repeat(production, 512))), 0, api.OK},
		{"513 productions", summed(rows(b[:13], []byte{1, 2}, bytes.Repeat(production, 513))), 13, api.ErrPack},
		{"513 productions, cut behind the number", rows(b[:13], []byte{1, 2}), 13, api.ErrPack},
		{"513 productions, cut within the number", rows(b[:13], []byte{1}), 14, api.ErrCut},
		{"65535 productions", rows(b[:13], []byte{255, 255}), 13, api.ErrPack},
		{"no productions", summed(rows(b[:13], []byte{0, 0})), 0, api.OK},
		{"a left that is none", summed(turned(b, 15, 1)), 15, api.ErrPack},
		{"a left that is none, cut behind it", turned(b, 15, 1)[:16], 15, api.ErrPack},
		{"16 symbols", summed(symbols(16, bytes.Repeat([]byte{3, 0}, 16)...)), 0, api.OK},
		{"17 symbols", summed(symbols(17, bytes.Repeat([]byte{3, 0}, 17)...)), 16, api.ErrPack},
		{"17 symbols, cut behind the number", symbols(17), 16, api.ErrPack},
		{"a u1 for trivia of 2", summed(rows([]byte("graftspe\x01\x02"), ruled(1, 97, 97)[10:])), 9, api.ErrPack},
		{"a u1 for trivia of 255, cut behind it", []byte("graftspe\x01\xff"), 9, api.ErrPack},
		{"a rule's name of 64 bytes", summed(rows([]byte("graftspe\x01\x01\x40"), make([]byte, 64), ruled(1, 97, 97)[12:])), 0, api.OK},
		{"a rule's name of 65 bytes", summed(rows([]byte("graftspe\x01\x01\x41"), make([]byte, 65), ruled(1, 97, 97)[12:])), 10, api.ErrPack},
		{"a rule's name of 65 bytes, cut behind the number", []byte("graftspe\x01\x01\x41"), 10, api.ErrPack},
		{"a rule's name of 64 bytes, cut within", []byte("graftspe\x01\x01\x40abc"), 14, api.ErrCut},
		{"a name of 64 bytes", summed(rows(b[:10], []byte{64}, make([]byte, 64), b[12:])), 0, api.OK},
		{"a name of 65 bytes", summed(rows(b[:10], []byte{65}, make([]byte, 65), b[12:])), 10, api.ErrPack},
		{"a name of 255 bytes, cut behind the number", rows(b[:10], []byte{255}), 10, api.ErrPack},
		{"a name of no bytes", summed(rows(b[:10], []byte{0}, b[12:])), 0, api.OK},
	} {
		wantAt(t, c.what, c.b, c.at, c.err)
	}
}

// TestSymbols is P1802 of symbols: a Kind that is none is told at once, an N when it is read; both at the Kind.
func TestSymbols(t *testing.T) {
	one := func(list ...byte) []byte { return append(append(exampleBytes()[:16], 1), list...) }
	ruleBytes := ruled(1, 97, 97)
	two := func(list ...byte) []byte {
		return append(append(slices.Clone(ruleBytes[:len(ruleBytes)-1]), 1), list...)
	}
	at := len(ruleBytes)
	for _, c := range []struct {
		what string
		b    []byte
		at   int
		err  api.Errno
	}{
		{"error", summed(one(2, 0)), 0, api.OK},
		{"error with 1", summed(one(2, 1)), 17, api.ErrPack},
		{"error with 1, cut behind it", one(2, 1), 17, api.ErrPack},
		{"error, cut ahead of its N", one(2), 18, api.ErrCut},
		{"a name", summed(one(3, 0)), 0, api.OK},
		{"a name that is none", summed(one(3, 1)), 17, api.ErrPack},
		{"a name, cut ahead of its N", one(3), 18, api.ErrCut},
		{"a rule, and there is none", summed(one(1, 0)), 17, api.ErrPack},
		{"a rule, and there is none, cut ahead of its N", one(1), 18, api.ErrCut},
		{"a rule", summed(two(1, 0)), 0, api.OK},
		{"a rule that is none", summed(two(1, 1)), at, api.ErrPack},
		{"a rule of 255", two(1, 255), at, api.ErrPack},
		{"the kind 0", summed(one(0, 0)), 17, api.ErrPack},
		{"the kind 4", summed(one(4, 0)), 17, api.ErrPack},
		{"the kind 4, cut behind it", one(4), 17, api.ErrPack},
		{"the kind 255, cut behind it", one(255), 17, api.ErrPack},
		{"no kind", one(), 17, api.ErrCut},
	} {
		wantAt(t, c.what, c.b, c.at, c.err)
	}
	trivia := turned(summed(two(1, 0)), 9, 1)
	wantAt(t, "a rule that is trivia", resummed(trivia), 0, api.OK)
}

// TestPatterns is P1802 of values that are none: at once, and when their numbers are read.
func TestPatterns(t *testing.T) {
	for _, c := range []struct {
		what    string
		pattern []byte
		at      int // from the pattern's first byte on; -1: it is right
	}{
		{"a range", []byte{1, 97, 97}, -1},
		{"a range of all bytes", []byte{1, 0, 255}, -1},
		{"a range that falls", []byte{1, 98, 97}, 0},
		{"a row of none", []byte{2, 0, 0}, -1},
		{"a row of one", []byte{2, 1, 0, 1, 97, 97}, 0},
		{"a row of two", []byte{2, 2, 0, 1, 97, 97, 1, 98, 98}, -1},
		{"a choice of none", []byte{3, 0, 0}, 0},
		{"a choice of one", []byte{3, 1, 0, 1, 97, 97}, 0},
		{"a choice of two", []byte{3, 2, 0, 1, 97, 97, 1, 98, 98}, -1},
		{"once", []byte{4, 1, 0, 1, 0, 1, 97, 97}, -1},
		{"never", []byte{4, 0, 0, 0, 0, 1, 97, 97}, -1},
		{"1000 times", []byte{4, 232, 3, 232, 3, 1, 97, 97}, -1},
		{"1000 times and more", []byte{4, 232, 3, 255, 255, 1, 97, 97}, -1},
		{"1001 times and more", []byte{4, 233, 3, 255, 255, 1, 97, 97}, 0},
		{"65535 times and more", []byte{4, 255, 255, 255, 255, 1, 97, 97}, 0},
		{"up to 1001 times", []byte{4, 0, 0, 233, 3, 1, 97, 97}, 0},
		{"up to 65534 times", []byte{4, 0, 0, 254, 255, 1, 97, 97}, 0},
		{"at most fewer times", []byte{4, 2, 0, 1, 0, 1, 97, 97}, 0},
		{"the kind 0", []byte{0}, 0},
		{"the kind 5", []byte{5}, 0},
		{"the kind 255", []byte{255, 97, 97}, 0},
		{"a part that falls", []byte{3, 2, 0, 1, 97, 97, 1, 9, 8}, 6},
		{"a part of no kind", []byte{2, 2, 0, 1, 97, 97, 9}, 6},
		{"a first part of no kind", []byte{2, 2, 0, 0, 97, 97, 9}, 3},
		{"a repeated part of no kind", []byte{4, 1, 0, 1, 0, 7}, 5},
		{"a part of a part", []byte{4, 1, 0, 1, 0, 2, 2, 0, 1, 97, 97, 3, 1, 0}, 11},
		{"two faults: the outer one", []byte{3, 1, 0, 1, 9, 8}, 0},
		{"two faults: the first part", []byte{3, 2, 0, 1, 9, 8, 9}, 3},
		{"5000 positions", []byte{4, 232, 3, 232, 3, 2, 5, 0, 1, 1, 1, 1, 1, 1, 1, 1, 1, 1, 1, 1, 1, 1, 1}, 0},
		{"5000 positions and a part of no kind", []byte{4, 232, 3, 232, 3, 2, 5, 0, 1, 1, 1, 1, 1, 1, 1, 1, 1, 1, 1, 1, 6}, 20},
		{"1000 times 1000 times", []byte{4, 232, 3, 232, 3, 4, 232, 3, 232, 3, 1, 97, 97}, 0},
	} {
		at, err, later := 12+c.at, api.ErrPack, 12+c.at
		if c.at < 0 {
			at, err, later = 0, api.OK, 12+len(c.pattern)
		}
		wantAt(t, c.what, summed(ruled(c.pattern...)), at, err)
		wantAt(t, c.what+", and a fault behind it", slices.Concat([]byte("graftspe\x02\x00\x01a"), c.pattern, []byte{3}), later, api.ErrPack)
	}
}

// TestAtOnce: what is told at once needs no byte more; what is told behind the numbers needs these, and no part.
func TestAtOnce(t *testing.T) {
	for _, c := range []struct {
		what   string
		b      []byte
		at     int
		err    api.Errno
		needed int // how many of the pattern's bytes
	}{
		{"a kind that is none", []byte{5}, 12, api.ErrPack, 1},
		{"a range that falls", []byte{1, 98, 97}, 12, api.ErrPack, 3},
		{"a row of one", []byte{2, 1, 0}, 12, api.ErrPack, 3},
		{"a choice of none", []byte{3, 0, 0}, 12, api.ErrPack, 3},
		{"a choice of one", []byte{3, 1, 0}, 12, api.ErrPack, 3},
		{"too many times", []byte{4, 233, 3, 255, 255}, 12, api.ErrPack, 5},
		{"up to too many times", []byte{4, 0, 0, 233, 3}, 12, api.ErrPack, 5},
		{"at most fewer times", []byte{4, 2, 0, 1, 0}, 12, api.ErrPack, 5},
		{"too many positions", []byte{4, 232, 3, 232, 3, 4, 5, 0, 5, 0, 1, 97, 97}, 12, api.ErrPack, 13},
	} {
		b := append([]byte("graftspe\x01\x00\x01a"), c.b...)
		wantAt(t, c.what, b, c.at, c.err)
		for n := range c.needed {
			wantAt(t, c.what+", cut", b[:12+n], 12+n, api.ErrCut)
		}
	}
}

// TestDepth is P1802: MaxNest values deep and one more, each of several kinds.
func TestDepth(t *testing.T) {
	around := [][]byte{{4, 1, 0, 1, 0}, {4, 0, 0, 255, 255}, {2, 2, 0}, {3, 2, 0}}
	for _, head := range around {
		deep := bytes.Repeat(head, 63)
		last := 12 + len(deep)
		full := append(slices.Clone(deep), 1, 97, 97)
		more := append(slices.Clone(deep), head...)
		if head[0] != api.XRepeat {
			full = append(full, bytes.Repeat([]byte{1, 98, 99}, 63)...)
		}
		wantAt(t, "64 deep", summed(ruled(full...)), 0, api.OK)
		wantAt(t, "64 deep, the last one of no kind", ruled(append(slices.Clone(deep), 0)...), last, api.ErrPack)
		wantAt(t, "65 deep", summed(ruled(append(slices.Clone(more), 1, 97, 97)...)), last+len(head), api.ErrPack)
		for _, kind := range []byte{0, 1, 2, 3, 4, 5} {
			b := append([]byte("graftspe\x01\x00\x01a"), more...)
			wantAt(t, "65 deep, cut behind the kind", append(b, kind), last+len(head), api.ErrPack)
		}
		wantAt(t, "64 deep, cut ahead of the kind of the next one", append([]byte("graftspe\x01\x00\x01a"), more...), last+len(head), api.ErrCut)
	}
	shallow := append([]byte{2, 2, 0}, bytes.Repeat([]byte{4, 1, 0, 1, 0}, 62)...)
	shallow = append(shallow, 1, 97, 97)
	back := append(slices.Clone(shallow), bytes.Repeat([]byte{4, 1, 0, 1, 0}, 62)...)
	wantAt(t, "64 deep twice, side by side", summed(ruled(append(slices.Clone(back), 1, 1, 1)...)), 0, api.OK)
	wantAt(t, "65 deep the second time", ruled(append(slices.Clone(back), 4, 1, 0, 1, 0, 1, 1, 1)...), 12+len(back)+5, api.ErrPack)
	two := append([]byte("graftspe\x02\x00\x01a"), nestBytes()...)
	two = append(append(two, 0, 1, 'b'), nestBytes()...)
	wantAt(t, "two patterns, each 64 deep", summed(append(two, 1, 1, 'S', 0, 1, 0, 0, 0)), 0, api.OK)
}

// nestBytes is a pattern that is 64 deep.
func nestBytes() []byte { return append(bytes.Repeat([]byte{4, 1, 0, 1, 0}, 63), 1, 97, 97) }

// TestValues is P1802: MaxPositions values of a pattern and one more; the values of each pattern are counted anew.
func TestValues(t *testing.T) {
	many := func(kind byte, count int) []byte { // a value with so many parts less one
		return append([]byte{kind, byte(count - 1), byte((count - 1) >> 8)}, bytes.Repeat([]byte{1, 97, 97}, count-1)...)
	}
	for _, kind := range []byte{2, 3} {
		full, over := many(kind, 4096), many(kind, 4097)
		wantAt(t, "4096 values", summed(ruled(full...)), 0, api.OK)
		wantAt(t, "4097 values", summed(ruled(over...)), 12+len(full), api.ErrPack)
		b := append([]byte("graftspe\x01\x00\x01a"), over[:len(full)+1]...)
		wantAt(t, "4097 values, cut behind the kind", b, 12+len(full), api.ErrPack)
		wantAt(t, "4097 values, cut ahead of it", b[:len(b)-1], 12+len(full), api.ErrCut)
		two := slices.Concat([]byte("graftspe\x02\x00\x01a"), full, []byte{1, 1, 'b'}, full, []byte{1, 1, 'S', 0, 1, 0, 0, 0})
		wantAt(t, "4096 values twice", summed(two), 0, api.OK)
		wantAt(t, "65535 parts that are not there", append([]byte("graftspe\x01\x00\x01a"), kind, 255, 255), 15, api.ErrCut)
		wantAt(t, "65535 parts", append([]byte("graftspe\x01\x00\x01a"), append([]byte{kind, 255, 255}, bytes.Repeat([]byte{1, 97, 97}, 65535)...)...), 12+len(full), api.ErrPack)
	}
	flat := bytes.Repeat([]byte{4, 1, 0, 1, 0, 1, 97, 97}, 2047) // of two values each
	flat = append(append([]byte{2, 0, 8}, flat...), 1, 98, 98)   // 2048 parts: 4096 values
	wantAt(t, "4096 values, two deep", summed(ruled(flat...)), 0, api.OK)
	over := append(slices.Clone(flat[:len(flat)-3]), 4, 1, 0, 1, 0, 1, 97, 97)
	wantAt(t, "4097 values, two deep", summed(ruled(over...)), 12+len(over)-3, api.ErrPack)
	wantAt(t, "rows of nothing", summed(ruled(append([]byte{2, 255, 15}, bytes.Repeat([]byte{2, 0, 0}, 4095)...)...)), 0, api.OK)
	wantAt(t, "rows of nothing, one too many", summed(ruled(append([]byte{2, 0, 16}, bytes.Repeat([]byte{2, 0, 0}, 4096)...)...)), 12+4096*3, api.ErrPack)
	deep := bytes.Repeat([]byte{2, 255, 255}, 63)
	wantAt(t, "65535 parts at each depth", append([]byte("graftspe\x01\x00\x01a"), append(deep, bytes.Repeat([]byte{1, 0, 0}, 5000)...)...), 12+4096*3, api.ErrPack)
}

// TestMostBytes is P1802: MaxPack bytes, and one more.
func TestMostBytes(t *testing.T) {
	b := append(packed(t, nothing()), make([]byte, api.MaxPack+1-21)...)
	for _, c := range []struct {
		what  string
		count int
		at    int
		err   api.Errno
	}{{"MaxPack", api.MaxPack, 21, api.ErrPack}, {"one more", api.MaxPack + 1, 0, api.ErrLong}} {
		s, at, err := pack.ReadSpec(b[:c.count])
		if at != c.at || err != c.err || !sameSpec(s, api.Spec{}) {
			t.Errorf("P1802: %s: %d %v", c.what, at, err)
		}
		if e, d, at, err := pack.ReadDoc(b[:c.count]); e != nil || d != nil || at != min(c.at, 5) || err != c.err {
			t.Errorf("P1804: %s: %d %v", c.what, at, err)
		}
	}
	clear(b)
	if _, at, err := pack.ReadSpec(b); at != 0 || err != api.ErrLong {
		t.Errorf("P1802: zeros: %d %v", at, err)
	}
}
