package rope_test

import (
	"bytes"
	"math"
	"math/rand"
	"slices"
	"strings"
	"testing"

	"graft/api"
	"graft/rope"
)

// made is the rope of a text.
func made(t *testing.T, s string) *rope.Rope {
	t.Helper()
	return right(t)(rope.New([]byte(s)))
}

// right hands on a rope that comes without an error.
func right(t *testing.T) func(*rope.Rope, api.Errno) *rope.Rope {
	return func(r *rope.Rope, e api.Errno) *rope.Rope {
		t.Helper()
		if r == nil || e != api.OK {
			t.Fatalf("rope %v with the error %v", r, e)
		}
		return r
	}
}

// refused asks for an error and no rope.
func refused(t *testing.T, want api.Errno) func(*rope.Rope, api.Errno) {
	return func(r *rope.Rope, e api.Errno) {
		t.Helper()
		if r != nil || e != want {
			t.Errorf("rope %v with the error %v, want none with %v", r, e, want)
		}
	}
}

// crumbs is the rope of a text, put together of pieces of n bytes.
func crumbs(t *testing.T, s string, n int) *rope.Rope {
	t.Helper()
	r := made(t, "")
	for b := range slices.Chunk([]byte(s), n) {
		r = right(t)(r.Cat(made(t, string(b))))
	}
	return r
}

// prose is a text with rows of many lengths, some of them empty.
func prose(n int) string {
	d := rand.New(rand.NewSource(int64(n)))
	b := make([]byte, n)
	for i := range b {
		b[i] = byte('a' + i%26)
		if d.Intn(20) == 0 {
			b[i] = 10
		}
	}
	return string(b)
}

// holds asks a rope for everything that it must tell, given its text.
func holds(t *testing.T, r *rope.Rope, want string) {
	t.Helper()
	if r.Len() != len(want) {
		t.Fatalf("P102: Len = %d, want %d", r.Len(), len(want))
	}
	if string(r.Bytes()) != want {
		t.Fatalf("P106: Bytes are not the text's of %d bytes", len(want))
	}
	if n := strings.Count(want, "\n") + 1; r.Rows() != n {
		t.Fatalf("P108: Rows = %d, want %d", r.Rows(), n)
	}
	step := len(want)/50 + 1
	for at := 0; at <= len(want); at += step {
		holdsAt(t, r, want, at)
	}
	holdsAt(t, r, want, len(want))
}

func holdsAt(t *testing.T, r *rope.Rope, want string, at int) {
	t.Helper()
	if at < len(want) {
		if c, ok := r.At(at); c != want[at] || !ok {
			t.Fatalf("P102: At(%d) = %d, %v, want %d", at, c, ok, want[at])
		}
	}
	row := strings.Count(want[:at], "\n")
	start := strings.LastIndexByte(want[:at], '\n') + 1
	if n, col, e := r.Row(at); n != row || col != at-start || e != api.OK {
		t.Fatalf("P108: Row(%d) = %d, %d, %v, want %d, %d", at, n, col, e, row, at-start)
	}
	if n, e := r.Start(row); n != start || e != api.OK {
		t.Fatalf("P108: Start(%d) = %d, %v, want %d", row, n, e, start)
	}
}

// lengths of texts: none, a few bytes, and those around the ends of one and more pieces.
func lengths() []int {
	return []int{0, 1, 2, 5, 1023, 1024, 1025, 2047, 2048, 2049, 3072, 5000, 70001}
}

// outside are numbers that are no place of a text of n bytes.
func outside(n int) []int {
	return []int{-1, n + 1, math.MaxInt, math.MinInt, math.MinInt + n, math.MaxInt - n}
}

func TestNew(t *testing.T) { // P101
	for _, n := range lengths() {
		s := prose(n)
		holds(t, made(t, s), s)
	}
	holds(t, right(t)(rope.New(nil)), "")
	every := make([]byte, 256)
	for i := range every {
		every[i] = byte(i)
	}
	holds(t, right(t)(rope.New(every)), string(every))
}

func TestNewLong(t *testing.T) { // P101
	b := make([]byte, api.MaxRope+1)
	refused(t, api.ErrLong)(rope.New(b))
	b[api.MaxRope-1] = 10
	r := right(t)(rope.New(b[:api.MaxRope]))
	if c, ok := r.At(api.MaxRope - 1); c != 10 || !ok || r.Len() != api.MaxRope || r.Rows() != 2 {
		t.Errorf("the longest rope: %d, %v, of %d bytes, %d rows", c, ok, r.Len(), r.Rows())
	}
}

func TestAt(t *testing.T) { // P102
	for _, n := range lengths() {
		s := prose(n)
		r := made(t, s)
		for i := range n {
			if c, ok := r.At(i); c != s[i] || !ok {
				t.Fatalf("At(%d) of %d bytes = %d, %v", i, n, c, ok)
			}
		}
		for _, i := range append(outside(n), n) {
			if c, ok := r.At(i); c != 0 || ok {
				t.Errorf("At(%d) of %d bytes = %d, %v", i, n, c, ok)
			}
		}
	}
}

func TestCut(t *testing.T) { // P103
	s := prose(5000)
	places := []int{0, 1, 2, 700, 1023, 1024, 1025, 2047, 2048, 2049, 4095, 4096, 4097, 4999, 5000}
	for _, r := range []*rope.Rope{made(t, s), crumbs(t, s, 7)} {
		for i, from := range places {
			for _, to := range places[i:] {
				holds(t, right(t)(r.Cut(from, to)), s[from:to])
			}
		}
		holds(t, r, s)
	}
}

func TestCutRange(t *testing.T) { // P103
	for _, n := range lengths() {
		r := made(t, prose(n))
		for _, i := range outside(n) {
			for _, j := range []int{0, n, i} {
				refused(t, api.ErrRange)(r.Cut(i, j))
				refused(t, api.ErrRange)(r.Cut(j, i))
			}
		}
		if n > 0 {
			refused(t, api.ErrRange)(r.Cut(n, n-1))
			refused(t, api.ErrRange)(r.Cut(1, 0))
		}
	}
}

func TestCat(t *testing.T) { // P104
	for _, n := range lengths() {
		for _, m := range lengths() {
			a, b := prose(n), prose(m)
			r, o := made(t, a), made(t, b)
			holds(t, right(t)(r.Cat(o)), a+b)
			holds(t, r, a)
			holds(t, o, b)
		}
	}
	r := made(t, "ab\ncd")
	holds(t, right(t)(r.Cat(r)), "ab\ncdab\ncd")
}

func TestCatLong(t *testing.T) { // P104
	r := made(t, "0123456\n")
	for r.Len() < api.MaxRope {
		r = right(t)(r.Cat(r))
	}
	if r.Len() != api.MaxRope || r.Rows() != api.MaxRope/8+1 {
		t.Fatalf("%d bytes, %d rows", r.Len(), r.Rows())
	}
	one := made(t, "x")
	refused(t, api.ErrLong)(r.Cat(one))
	refused(t, api.ErrLong)(one.Cat(r))
	refused(t, api.ErrLong)(r.Cat(r))
	none := made(t, "")
	if !right(t)(r.Cat(none)).Equal(r) || !right(t)(none.Cat(r)).Equal(r) {
		t.Error("the longest rope with nothing behind or ahead is not itself")
	}
	short := right(t)(r.Cut(1, api.MaxRope))
	if x := right(t)(short.Cat(one)); x.Len() != api.MaxRope {
		t.Errorf("%d bytes", x.Len())
	}
}

func TestSplice(t *testing.T) { // P105
	r := made(t, "ab\ncd")
	holds(t, right(t)(r.Splice(2, 1, []byte("xy"))), "abxycd")
	holds(t, right(t)(r.Splice(5, 0, []byte("\n"))), "ab\ncd\n")
	holds(t, right(t)(r.Splice(0, 5, nil)), "")
	holds(t, right(t)(r.Splice(0, 0, nil)), "ab\ncd")
	holds(t, right(t)(made(t, "").Splice(0, 0, []byte("x"))), "x")
	for _, n := range lengths() {
		s := prose(n)
		r := made(t, s)
		for _, m := range []int{0, 1, 1024, 3000} {
			ins := strings.ToUpper(prose(m))
			for _, at := range []int{0, n / 3, n} {
				for _, del := range []int{0, (n - at) / 2, n - at} {
					x := right(t)(r.Splice(at, del, []byte(ins)))
					holds(t, x, s[:at]+ins+s[at+del:])
				}
			}
		}
		holds(t, r, s)
	}
}

func TestSpliceRange(t *testing.T) { // P105
	long := make([]byte, api.MaxRope+1)
	for _, n := range lengths() {
		r := made(t, prose(n))
		for _, i := range outside(n) {
			// A place that is none comes ahead of too many bytes.
			for _, ins := range [][]byte{nil, {1}, long} {
				refused(t, api.ErrRange)(r.Splice(i, 0, ins))
				refused(t, api.ErrRange)(r.Splice(0, i, ins))
				refused(t, api.ErrRange)(r.Splice(i, i, ins))
				refused(t, api.ErrRange)(r.Splice(n, i, ins))
			}
		}
		refused(t, api.ErrRange)(r.Splice(n, 1, long))
		refused(t, api.ErrRange)(r.Splice(n/2, n-n/2+1, nil))
		// A negative place and a number that makes up for it.
		refused(t, api.ErrRange)(r.Splice(-1, 1, nil))
		refused(t, api.ErrRange)(r.Splice(n, -n-1, nil))
	}
}

func TestSpliceLong(t *testing.T) { // P105
	b := make([]byte, api.MaxRope+1)
	r := right(t)(rope.New(b[:api.MaxRope]))
	refused(t, api.ErrLong)(r.Splice(0, 0, b[:1]))
	refused(t, api.ErrLong)(r.Splice(api.MaxRope, 0, b[:1]))
	refused(t, api.ErrLong)(r.Splice(5, 7, b[:8]))
	refused(t, api.ErrLong)(r.Splice(0, api.MaxRope, b))
	refused(t, api.ErrLong)(made(t, "").Splice(0, 0, b))
	refused(t, api.ErrLong)(made(t, "x").Splice(0, 0, b[:api.MaxRope]))
	for _, x := range []*rope.Rope{
		right(t)(r.Splice(0, 1, []byte{7})),
		right(t)(r.Splice(0, api.MaxRope, []byte{7})),
		right(t)(r.Splice(0, 2, []byte{7, 8})),
	} {
		if c, ok := x.At(0); c != 7 || !ok {
			t.Errorf("At(0) = %d, %v", c, ok)
		}
	}
	if x := right(t)(made(t, "x").Splice(0, 1, b[:api.MaxRope])); !x.Equal(r) {
		t.Error("all bytes put in at once are not those of New")
	}
}

func TestPart(t *testing.T) { // P106
	for _, n := range lengths() {
		s := prose(n)
		r := crumbs(t, s, 300)
		for _, from := range []int{0, n / 3, n / 2, n} {
			for _, to := range []int{from, from + (n-from)/2, n} {
				if b, e := r.Part(from, to); string(b) != s[from:to] || e != api.OK {
					t.Errorf("Part(%d, %d) of %d bytes: %d bytes, %v", from, to, n, len(b), e)
				}
			}
		}
		for _, i := range outside(n) {
			for _, c := range [][2]int{{i, 0}, {0, i}, {i, n}, {n, i}, {i, i}} {
				if b, e := r.Part(c[0], c[1]); len(b) != 0 || e != api.ErrRange {
					t.Errorf("Part(%d, %d) of %d bytes: %d bytes, %v", c[0], c[1], n, len(b), e)
				}
			}
		}
		if b, e := r.Part(n, n-1); len(b) != 0 || e != api.ErrRange {
			t.Errorf("Part(%d, %d): %d bytes, %v", n, n-1, len(b), e)
		}
	}
}

func TestEqual(t *testing.T) { // P107
	for _, n := range lengths() {
		s := prose(n)
		r := made(t, s)
		for _, k := range []int{1000, 333, 1024} {
			o := crumbs(t, s, k)
			if !r.Equal(o) || !o.Equal(r) || !o.Equal(o) {
				t.Errorf("%d bytes in pieces of %d are not equal", n, k)
			}
		}
		if x := right(t)(r.Cat(made(t, "x"))); x.Equal(r) || r.Equal(x) {
			t.Errorf("%d bytes are equal to one more", n)
		}
		for _, at := range []int{0, n / 2, n - 1} {
			if n == 0 {
				break
			}
			c, _ := r.At(at)
			x := right(t)(r.Splice(at, 1, []byte{c ^ 128}))
			if x.Equal(r) || r.Equal(x) {
				t.Errorf("%d bytes are equal to others at %d", n, at)
			}
			if back := right(t)(x.Splice(at, 1, []byte{c})); !back.Equal(r) {
				t.Errorf("%d bytes put back at %d are not equal", n, at)
			}
		}
	}
	if made(t, "a\nb").Equal(made(t, "ab\n")) || !made(t, "").Equal(right(t)(made(t, "a").Cut(1, 1))) {
		t.Error("equal counts of bytes and rows are no equal bytes; no bytes are")
	}
}

func TestRows(t *testing.T) { // P108
	for _, s := range []string{"", "\n", "\n\n", "a", "a\n", "\na", "ab\ncd", "ab\ncd\n", "\r\n", prose(3000), strings.Repeat("\n", 4000), strings.Repeat("x", 4000) + "\n"} {
		for _, r := range []*rope.Rope{made(t, s), crumbs(t, s, 5)} {
			for at := range len(s) + 1 {
				holdsAt(t, r, s, at)
			}
			for row, at := 0, 0; row < r.Rows(); row++ {
				if n, e := r.Start(row); n != at || e != api.OK {
					t.Fatalf("Start(%d) = %d, %v, want %d", row, n, e, at)
				}
				at += strings.IndexByte(s[at:], '\n') + 1
			}
			for _, i := range outside(len(s)) {
				if row, col, e := r.Row(i); row != 0 || col != 0 || e != api.ErrRange {
					t.Errorf("Row(%d) = %d, %d, %v", i, row, col, e)
				}
			}
			for _, i := range append(outside(r.Rows()), r.Rows()) {
				if at, e := r.Start(i); at != 0 || e != api.ErrRange {
					t.Errorf("Start(%d) = %d, %v", i, at, e)
				}
			}
		}
	}
}

// gone goes over a rope's pieces from a place on, and asks that they lie one behind the other.
func gone(t *testing.T, r *rope.Rope, from int) string {
	t.Helper()
	seq, e := r.Chunks(from)
	if seq == nil || e != api.OK {
		t.Fatalf("Chunks(%d): %v", from, e)
	}
	var all []byte
	for at, b := range seq {
		if at != from+len(all) || len(b) == 0 {
			t.Fatalf("Chunks(%d): a piece of %d bytes at %d, want it at %d", from, len(b), at, from+len(all))
		}
		all = append(all, b...)
	}
	return string(all)
}

func TestChunks(t *testing.T) { // P109
	for _, n := range lengths() {
		s := prose(n)
		for _, r := range []*rope.Rope{made(t, s), crumbs(t, s, 600)} {
			for _, from := range []int{0, n / 3, n / 2, n - min(n, 1), n} {
				if got := gone(t, r, from); got != s[from:] {
					t.Errorf("Chunks(%d) of %d bytes: %d bytes", from, n, len(got))
				}
			}
			for _, i := range outside(n) {
				if seq, e := r.Chunks(i); seq != nil || e != api.ErrRange {
					t.Errorf("Chunks(%d) of %d bytes: %v", i, n, e)
				}
			}
		}
	}
}

func TestChunksLeftAndNested(t *testing.T) { // P109
	s := prose(9000)
	r := made(t, s)
	seq, _ := r.Chunks(100)
	for at, b := range seq { // left early
		if at != 100 || !strings.HasPrefix(s[100:], string(b)) {
			t.Fatalf("the first piece at %d", at)
		}
		break
	}
	var outer, inner []byte
	for at, b := range seq { // from its beginning again, and within itself
		outer = append(outer, b...)
		inner = inner[:0]
		for _, c := range seq {
			inner = append(inner, c...)
		}
		if string(inner) != s[100:] {
			t.Fatalf("within the piece at %d: %d bytes", at, len(inner))
		}
	}
	if string(outer) != s[100:] {
		t.Errorf("around itself: %d bytes", len(outer))
	}
}

func TestChunksOwn(t *testing.T) { // P109: each piece is memory of its own, its spare room too
	s := prose(9000)
	r := made(t, s)
	seq, _ := r.Chunks(0)
	var kept [][]byte
	for at, b := range seq {
		for _, k := range kept {
			spoil(k)
		}
		if !strings.HasPrefix(s[at:], string(b)) {
			t.Fatalf("the piece at %d was spoiled", at)
		}
		kept = append(kept, b)
	}
	spoil(kept[len(kept)-1])
	holds(t, r, s)
	if gone(t, r, 0) != s {
		t.Error("the pieces told again are others")
	}
}

// spoil writes over a list and its spare room.
func spoil(b []byte) {
	b = b[:cap(b)]
	for i := range b {
		b[i] = '#'
	}
}

func TestRead(t *testing.T) { // P110
	for _, n := range lengths() {
		s := prose(n)
		for _, r := range []*rope.Rope{made(t, s), crumbs(t, s, 600)} {
			for _, from := range []int{0, n / 3, n / 2, n - min(n, 1), n} {
				d, e := r.Read(from)
				if d == nil || e != api.OK || d.At() != from {
					t.Fatalf("Read(%d) of %d bytes: %v", from, n, e)
				}
				readOn(t, d, s, from)
			}
			for _, i := range outside(n) {
				if d, e := r.Read(i); d != nil || e != api.ErrRange {
					t.Errorf("Read(%d) of %d bytes: %v", i, n, e)
				}
			}
		}
	}
}

// readOn reads to the end, and asks again there.
func readOn(t *testing.T, d *rope.Reader, s string, from int) {
	t.Helper()
	for i := from; i < len(s); i++ {
		if c, ok := d.Next(); c != s[i] || !ok || d.At() != i+1 {
			t.Fatalf("Next at %d = %d, %v, and then at %d", i, c, ok, d.At())
		}
	}
	for range 3 {
		if c, ok := d.Next(); c != 0 || ok || d.At() != len(s) {
			t.Fatalf("Next at the end = %d, %v, and then at %d", c, ok, d.At())
		}
	}
}

func TestReadersApart(t *testing.T) { // P110
	s := prose(6000)
	r := made(t, s)
	a, _ := r.Read(0)
	b, _ := r.Read(0)
	for i := range 3000 {
		a.Next()
		if c, ok := a.Next(); c != s[2*i+1] || !ok {
			t.Fatalf("the fast reader at %d: %d, %v", 2*i+1, c, ok)
		}
		if c, ok := b.Next(); c != s[i] || !ok || b.At() != i+1 {
			t.Fatalf("the slow reader at %d: %d, %v", i, c, ok)
		}
	}
	mid, _ := r.Read(1500)
	twin := *mid
	readOn(t, mid, s, 1500)
	readOn(t, &twin, s, 1500)
}

func TestListsApart(t *testing.T) { // P111, P2
	s := prose(3000)
	room := []byte(s + "the spare room")
	for _, n := range []int{0, 1, 1024, 3000} {
		b := slices.Clone(room)
		r := right(t)(rope.New(b[:n]))
		x := right(t)(r.Splice(n/2, 0, b[:n]))
		if !bytes.Equal(b, room) {
			t.Fatal("what was handed in was changed")
		}
		spoil(b)
		holds(t, r, s[:n])
		holds(t, x, s[:n/2]+s[:n]+s[n/2:n])
		part, _ := r.Part(0, n)
		twin, _ := r.Part(0, n)
		spoil(r.Bytes())
		spoil(part)
		holds(t, r, s[:n])
		if string(twin) != s[:n] {
			t.Error("two lists share memory")
		}
	}
}

func TestForEver(t *testing.T) { // P111: old ropes stay as they were, whatever is made of them
	d := rand.New(rand.NewSource(1))
	ropes := []*rope.Rope{made(t, ""), made(t, prose(3000))}
	texts := []string{"", prose(3000)}
	for range 600 {
		i, j := d.Intn(len(ropes)), d.Intn(len(ropes))
		r, s := ropes[i], texts[i]
		at := d.Intn(len(s) + 1)
		to := at + d.Intn(len(s)-at+1)
		switch d.Intn(4) {
		case 0:
			r, s = right(t)(r.Cut(at, to)), s[at:to]
		case 1:
			r, s = right(t)(r.Cat(ropes[j])), s+texts[j]
		default:
			ins := prose(d.Intn(1 << d.Intn(12)))
			r, s = right(t)(r.Splice(at, to-at, []byte(ins))), s[:at]+ins+s[to:]
		}
		if len(s) > 100000 {
			continue
		}
		holds(t, r, s)
		ropes, texts = append(ropes, r), append(texts, s)
	}
	for i, r := range ropes {
		holds(t, r, texts[i])
		if !r.Equal(made(t, texts[i])) || gone(t, r, len(texts[i])/2) != texts[i][len(texts[i])/2:] {
			t.Fatalf("rope %d is not what its bytes make it", i)
		}
	}
}

func TestCheap(t *testing.T) { // edits of the longest rope write little anew
	r := right(t)(rope.New(bytes.Repeat([]byte("0123456\n"), api.MaxRope/8)))
	for i := range 20000 {
		at := i * 7919 % (api.MaxRope - 8)
		r = right(t)(r.Splice(at, 1, nil))
		r = right(t)(r.Splice(at/2, 0, []byte{10}))
	}
	if r.Len() != api.MaxRope {
		t.Errorf("%d bytes", r.Len())
	}
	last := r.Rows() - 1
	at, _ := r.Start(last)
	if row, col, e := r.Row(at); row != last || col != 0 || e != api.OK || at != api.MaxRope {
		t.Errorf("the last row %d at %d: %d, %d, %v", last, at, row, col, e)
	}
}
