package pack_test

import (
	"math/rand"
	"slices"
	"testing"

	"graft/api"
	"graft/pack"
)

// turnedBits is a copy of bytes in which bits are turned, from one on, counted from the lowest of each byte: those of the mask.
func turnedBits(b []byte, from int, mask uint32) []byte {
	b = slices.Clone(b)
	for i := range 32 {
		if mask>>i&1 == 1 {
			b[(from+i)/8] ^= 1 << ((from + i) % 8)
		}
	}
	return b
}

// masks are some that begin with a bit that is turned, and end with one, so many bits further.
func masks(r *rand.Rand, bits int) []uint32 {
	ends := uint32(1) | 1<<(bits-1)
	all := uint32(1<<bits - 1)
	return []uint32{ends, all, ends | r.Uint32()&all, ends | r.Uint32()&all}
}

// eachTurn hands a pack to a function with up to 32 bits side by side turned, at every place.
func eachTurn(r *rand.Rand, b []byte, step int, look func(b []byte)) {
	for from := range 8 * len(b) {
		for bits := 1 + r.Intn(step); bits <= min(32, 8*len(b)-from); bits += step {
			for _, mask := range masks(r, bits) {
				look(turnedBits(b, from, mask))
			}
		}
	}
}

// TestTurnedSpecs is P1806 of specs.
func TestTurnedSpecs(t *testing.T) {
	r := rand.New(rand.NewSource(1808))
	for i, b := range somePacks(t) {
		step := 1 + min(i, 1)*len(b)/20 // the first one, of the document's examples, in full
		eachTurn(r, b, step, func(x []byte) {
			if s, at, err := pack.ReadSpec(x); err == api.OK || at < 0 || at > len(x) || !sameSpec(s, api.Spec{}) {
				t.Fatalf("P1806: %d %v of % x, which was % x", at, err, x, b)
			}
		})
	}
}

// TestTurnedDocs is P1806 of documents.
func TestTurnedDocs(t *testing.T) {
	t.Parallel()
	r := rand.New(rand.NewSource(1809))
	refused := func(x []byte) {
		if e, d, at, err := pack.ReadDoc(x); e != nil || d != nil || err == api.OK || at < 0 || at > len(x) {
			t.Fatalf("P1806: %d %v of % x", at, err, x)
		}
	}
	eachTurn(r, smallDoc(t), 1, refused)
	for i, b := range someDocs(t) {
		if i%2 == 0 && len(b) < 300 {
			eachTurn(r, b, 40, refused)
		}
	}
}

// TestTurnedNumbers is P1806: numbers turned so that a pack would have another length; all values of the bytes in which they stand.
func TestTurnedNumbers(t *testing.T) {
	t.Parallel()
	b := smallDoc(t)
	for _, at := range []int{8, 33, 35, specEnd(b) + 2 + 6 + 10} { // the spec's bytes, the versions, the text's bytes, an Ins's
		for x := range 1 << 16 {
			c := slices.Clone(b)
			c[at] ^= byte(x)
			c[at+1] ^= byte(x >> 8)
			if e, _, place, err := pack.ReadDoc(c); (e == nil) != (x > 0) || (err == api.OK) != (x == 0) || place < 0 || place > len(c) {
				t.Fatalf("P1806: %d %v of % x", place, err, c)
			}
		}
	}
}
