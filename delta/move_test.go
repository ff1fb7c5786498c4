package delta_test

import (
	"bytes"
	"math"
	"math/rand"
	"slices"
	"testing"

	"graft/api"
	"graft/delta"
)

const bound = api.MaxText

// byWords is P1503's move by one edit.
func byWords(place, bias int, e api.Edit) int {
	ins := len(e.Ins)
	if place < e.At {
		return place
	}
	if place > e.At+e.Del {
		return place - e.Del + ins
	}
	if bias < 0 {
		return e.At
	}
	return e.At + ins
}

// moveByWords is P1503.
func moveByWords(place, bias int, edits []api.Edit) (int, api.Errno) {
	outside := func(n int) bool { return n < 0 || n > 262144 }
	switch {
	case outside(place):
		return 0, api.ErrPlace
	case len(edits) > 4096:
		return 0, api.ErrLong
	}
	for _, e := range edits {
		if outside(e.At) || outside(e.Del) || outside(len(e.Ins)) {
			return 0, api.ErrArg
		}
		if place = byWords(place, bias, e); place > 262144 {
			return 0, api.ErrPlace
		}
	}
	return place, api.OK
}

// biases are all kinds of them.
func biases() []int { return []int{math.MinInt, -7, -1, 0, 1, 5, math.MaxInt} }

// TestMoveTable is P1503 at the places around one edit, by hand.
func TestMoveTable(t *testing.T) {
	for _, c := range []struct {
		e            api.Edit
		left, others []int // where the places from 0 on come to stand, with a bias below 0 and with others
	}{
		{edit(2, 0, ""), []int{0, 1, 2, 3, 4}, []int{0, 1, 2, 3, 4}},
		{edit(2, 0, "ab"), []int{0, 1, 2, 5, 6}, []int{0, 1, 4, 5, 6}},
		{edit(2, 1, ""), []int{0, 1, 2, 2, 3}, []int{0, 1, 2, 2, 3}},
		{edit(2, 2, "abc"), []int{0, 1, 2, 2, 2, 6, 7}, []int{0, 1, 5, 5, 5, 6, 7}},
		{edit(0, 0, "a"), []int{0, 2, 3}, []int{1, 2, 3}},
		{edit(0, 2, ""), []int{0, 0, 0, 1, 2}, []int{0, 0, 0, 1, 2}},
		{edit(0, 9, "abcd"), []int{0, 0, 0}, []int{4, 4, 4}},
		{edit(3, 0, "a"), []int{0, 1, 2, 3}, []int{0, 1, 2, 4}},
	} {
		for place := range c.left {
			for _, bias := range biases() {
				want := c.others[place]
				if bias < 0 {
					want = c.left[place]
				}
				wantMove(t, place, bias, []api.Edit{c.e}, want, api.OK)
			}
		}
	}
}

// TestMoveAround is P1503 by its words: every place around At, At + Del and the end of a text, for edits at all its places, at its end and behind it.
func TestMoveAround(t *testing.T) {
	const end = 7
	for at := range end + 3 {
		for del := range end + 3 {
			for ins := range 4 {
				e := []api.Edit{{At: at, Del: del, Ins: make([]byte, ins)}}
				for place := range at + del + end {
					for _, bias := range biases() {
						want, err := moveByWords(place, bias, e)
						wantMove(t, place, bias, e, want, err)
					}
				}
			}
		}
	}
}

// TestMoveSeveral is P1503: several edits one behind the other do what they do one by one; no edits do nothing.
func TestMoveSeveral(t *testing.T) {
	r := rand.New(rand.NewSource(1503))
	for range 20000 {
		var edits []api.Edit
		for range r.Intn(6) {
			edits = append(edits, api.Edit{At: r.Intn(12), Del: r.Intn(5), Ins: make([]byte, r.Intn(5))})
		}
		place, bias := r.Intn(20), r.Intn(3)-1
		want := place
		for _, e := range edits {
			want = byWords(want, bias, e)
		}
		wantMove(t, place, bias, edits, want, api.OK)
	}
	for _, place := range []int{0, 1, bound - 1, bound} {
		for _, bias := range biases() {
			wantMove(t, place, bias, nil, place, api.OK)
			wantMove(t, place, bias, []api.Edit{}, place, api.OK)
			wantMove(t, place, bias, []api.Edit{{At: place + 1}}[:min(1, bound-place)], place, api.OK)
		}
	}
}

// TestMoveBounds is P1503's errors, each alone, at the bounds and one beyond, and with numbers whose sums are past all bounds.
func TestMoveBounds(t *testing.T) {
	big := make([]byte, bound+1)
	abc := edit(4, 2, "abc")
	for _, c := range []struct {
		place int
		edits []api.Edit
		want  int
		e     api.Errno
	}{
		{-1, nil, 0, api.ErrPlace},
		{math.MinInt, nil, 0, api.ErrPlace},
		{bound + 1, nil, 0, api.ErrPlace},
		{math.MaxInt, nil, 0, api.ErrPlace},
		{bound, nil, bound, api.OK},
		{3, []api.Edit{{At: -1}}, 0, api.ErrArg},
		{3, []api.Edit{{At: math.MinInt}}, 0, api.ErrArg},
		{3, []api.Edit{{At: bound + 1}}, 0, api.ErrArg},
		{3, []api.Edit{{At: math.MaxInt}}, 0, api.ErrArg},
		{3, []api.Edit{{At: bound}}, 3, api.OK},
		{3, []api.Edit{{Del: -1}}, 0, api.ErrArg},
		{3, []api.Edit{{Del: math.MinInt}}, 0, api.ErrArg},
		{3, []api.Edit{{Del: bound + 1}}, 0, api.ErrArg},
		{3, []api.Edit{{Del: math.MaxInt}}, 0, api.ErrArg},
		{3, []api.Edit{{Del: bound}}, 0, api.OK},
		{3, []api.Edit{{Ins: big}}, 0, api.ErrArg},
		{0, []api.Edit{{Ins: big[:bound]}}, bound, api.OK},
		{3, []api.Edit{{At: 4, Ins: big[:bound]}}, 3, api.OK},
		{3, []api.Edit{{At: math.MaxInt, Del: math.MaxInt}}, 0, api.ErrArg},
		{3, []api.Edit{{At: math.MinInt, Del: math.MinInt}}, 0, api.ErrArg},
		{bound, []api.Edit{{At: bound, Del: bound}}, bound, api.OK},
		{bound, []api.Edit{{At: bound, Del: bound, Ins: big[:1]}}, 0, api.ErrPlace},
		{bound, []api.Edit{{At: bound, Del: bound, Ins: big[:bound]}}, 0, api.ErrPlace},
		{bound, []api.Edit{{Del: bound, Ins: big[:bound]}}, bound, api.OK},
		{bound, []api.Edit{{At: 1, Del: bound, Ins: big[:bound]}}, 0, api.ErrPlace},
		{bound, []api.Edit{{At: 1, Del: bound, Ins: big[:bound-1]}}, bound, api.OK},
		{bound, []api.Edit{abc}, 0, api.ErrPlace},
		{bound - 1, []api.Edit{abc}, bound, api.OK},
		{bound, []api.Edit{abc, {Del: 9}}, 0, api.ErrPlace},
		{bound, []api.Edit{{Del: 9}, abc}, bound - 8, api.OK},
	} {
		wantMove(t, c.place, 0, c.edits, c.want, c.e)
	}
	wantMove(t, 0, -1, []api.Edit{{Ins: big[:bound]}}, 0, api.OK)
	wantMove(t, bound, -1, []api.Edit{{At: bound, Del: bound, Ins: big[:bound]}}, bound, api.OK)
}

// TestMoveFirstError is P1503: two errors at once, in each order; the first edit with one decides, whatever stands behind it, and a list that is too long decides ahead of its edits.
func TestMoveFirstError(t *testing.T) {
	wrong, far, fine := api.Edit{At: -1}, api.Edit{Ins: make([]byte, bound)}, edit(0, 1, "")
	wantMove(t, 5, 0, []api.Edit{wrong, far}, 0, api.ErrArg)
	wantMove(t, 5, 0, []api.Edit{far, wrong}, 0, api.ErrPlace)
	wantMove(t, 5, 0, []api.Edit{fine, wrong, far}, 0, api.ErrArg)
	wantMove(t, 5, 0, []api.Edit{fine, far, wrong}, 0, api.ErrPlace)
	wantMove(t, 5, 0, []api.Edit{fine, far, fine}, 0, api.ErrPlace)
	wantMove(t, -1, 0, []api.Edit{wrong}, 0, api.ErrPlace)
	wantMove(t, bound+1, 0, []api.Edit{wrong}, 0, api.ErrPlace)
	wantMove(t, 5, 0, []api.Edit{fine, fine, wrong}, 0, api.ErrArg)
	for _, first := range []api.Edit{wrong, far, fine} {
		long := append([]api.Edit{first}, make([]api.Edit, api.MaxVersions)...)
		wantMove(t, 5, 0, long, 0, api.ErrLong)
		wantMove(t, -1, 0, long, 0, api.ErrPlace)
		wantMove(t, bound+1, 0, long, 0, api.ErrPlace)
	}
	long := make([]api.Edit, api.MaxVersions)
	wantMove(t, 5, 0, long, 5, api.OK)
	long[len(long)-1] = wrong
	wantMove(t, 5, 0, long, 0, api.ErrArg)
	long[len(long)-1] = far
	wantMove(t, 5, 0, long, 0, api.ErrPlace)
	for i := range long {
		long[i] = edit(0, 0, "ab")
	}
	wantMove(t, 5, 0, long, 5+2*api.MaxVersions, api.OK)
}

// TestMoveAny is P1503 by its words for numbers at all bounds, one edit or several, in any mixture.
func TestMoveAny(t *testing.T) {
	r := rand.New(rand.NewSource(1508))
	big := make([]byte, bound+1)
	numbers := []int{0, 1, 2, 3, 5, 9, bound / 2, bound - 3, bound - 2, bound - 1, bound}
	wrong := []int{-1, math.MinInt, math.MinInt + 1, bound + 1, math.MaxInt, 1 << 40}
	pick := func() int {
		if r.Intn(25) == 0 {
			return wrong[r.Intn(len(wrong))]
		}
		return numbers[r.Intn(len(numbers))]
	}
	met := map[string]int{}
	for range 100000 {
		var edits []api.Edit
		for range 1 + r.Intn(3) {
			ins := r.Intn(9)
			if r.Intn(9) == 0 {
				ins = bound + r.Intn(2)
			}
			edits = append(edits, api.Edit{At: pick(), Del: pick(), Ins: big[:ins]})
		}
		place, bias := pick(), biases()[r.Intn(7)]
		want, e := moveByWords(place, bias, edits)
		wantMove(t, place, bias, edits, want, e)
		met[e.Error()]++
	}
	wantMet(t, met, 5000, "ok", "arg", "place")
}

// TestMoveKeepsOrder is P1508: places stay in order, and a bias below 0 is never behind another.
func TestMoveKeepsOrder(t *testing.T) {
	r := rand.New(rand.NewSource(1509))
	for range 3000 {
		var edits []api.Edit
		for range r.Intn(5) {
			edits = append(edits, api.Edit{At: r.Intn(10), Del: r.Intn(6), Ins: make([]byte, r.Intn(6))})
		}
		shift := (bound - 30) * r.Intn(2)
		for i := range edits {
			edits[i].At += shift
		}
		last := [2]int{-1, -1}
		for place := shift; place < min(shift+30, bound); place++ {
			for i, bias := range []int{-1, 0} {
				got, e := delta.Move(place, bias, edits)
				if e != api.OK {
					continue
				}
				if got < last[i] {
					t.Fatalf("P1508: %v, bias %d: %d comes ahead of %d", edits, bias, place, place-1)
				}
				last[i] = got
				if other, e := delta.Move(place, 0, edits); bias < 0 && e == api.OK && got > other {
					t.Fatalf("P1508: %v: %d is behind itself with bias 0", edits, place)
				}
			}
		}
	}
}

// TestMoveBytes is P1508: each byte that an edit leaves is found behind it between its two places.
func TestMoveBytes(t *testing.T) {
	for _, text := range [][]byte{[]byte("abcdefghijkl"), bytes.Repeat([]byte("x"), bound-3)} {
		mark := byte('!')
		for _, at := range []int{0, 1, 4, 7, len(text) - 2, len(text) - 1, len(text)} {
			for del := range min(4, len(text)-at+1) {
				for _, ins := range []string{"", "?", "???"} {
					for place := range len(text) {
						if at <= place && place < at+del || len(text) > 20 && place > at+6 && place < len(text)-3 || place < at-5 {
							continue
						}
						marked := slices.Clone(text)
						marked[place] = mark
						now := slices.Concat(marked[:at], []byte(ins), marked[at+del:])
						from, e := delta.Move(place, 0, []api.Edit{edit(at, del, ins)})
						to, e2 := delta.Move(place+1, -1, []api.Edit{edit(at, del, ins)})
						if e != api.OK || e2 != api.OK || to != from+1 || now[from] != mark {
							t.Fatalf("P1508: the byte %d of %d behind an edit at %d of %d and %q lies at %d to %d: %v %v", place, len(text), at, del, ins, from, to, e, e2)
						}
					}
				}
			}
		}
	}
}
