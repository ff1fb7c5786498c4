package relex_test

import (
	"math"
	"math/rand"
	"slices"
	"testing"

	"graft/api"
	"graft/relex"
)

func wantCompose(t *testing.T, a, b, want api.Edit, can bool) {
	t.Helper()
	got, ok := relex.Compose(a, b)
	if ok != can || !sameEdit(got, want) {
		t.Errorf("P504: {%d %d, %d bytes}, {%d %d, %d bytes}: {%d %d, %d bytes} %v, not {%d %d, %d bytes} %v",
			a.At, a.Del, len(a.Ins), b.At, b.Del, len(b.Ins), got.At, got.Del, len(got.Ins), ok, want.At, want.Del, len(want.Ins), can)
	}
}

// refusedBoth asks that an edit is refused as the first and as the second one.
func refusedBoth(t *testing.T, e api.Edit) {
	t.Helper()
	for _, other := range []api.Edit{{}, {At: max(e.At, 0)}, {Del: 3, Ins: []byte("ab")}, e} {
		wantCompose(t, e, other, api.Edit{}, false)
		wantCompose(t, other, e, api.Edit{}, false)
	}
}

func TestExamplesOfCompose(t *testing.T) {
	wantCompose(t, ed(3, 2, "abc"), ed(4, 5, "x"), ed(3, 5, "ax"), true)
	wantCompose(t, ed(3, 0, "a"), ed(4, 0, "b"), ed(3, 0, "ab"), true)
	wantCompose(t, ed(3, 0, "a"), ed(5, 0, "b"), api.Edit{}, false)
}

func TestBordersOfCompose(t *testing.T) {
	a := ed(5, 2, "abc") // its bytes lie at 5, 6, 7
	for _, c := range []struct {
		b, want api.Edit
		can     bool
	}{
		{ed(9, 0, "x"), api.Edit{}, false},
		{ed(9, 3, ""), api.Edit{}, false},
		{ed(8, 0, "x"), ed(5, 2, "abcx"), true},
		{ed(8, 3, "x"), ed(5, 5, "abcx"), true},
		{ed(7, 0, "x"), ed(5, 2, "abxc"), true},
		{ed(7, 1, "x"), ed(5, 2, "abx"), true},
		{ed(7, 2, "x"), ed(5, 3, "abx"), true},
		{ed(6, 1, "x"), ed(5, 2, "axc"), true},
		{ed(5, 0, "x"), ed(5, 2, "xabc"), true},
		{ed(5, 0, ""), ed(5, 2, "abc"), true},
		{ed(5, 3, ""), ed(5, 2, ""), true},
		{ed(5, 4, "x"), ed(5, 3, "x"), true},
		{ed(4, 0, "x"), api.Edit{}, false},
		{ed(4, 1, "x"), ed(4, 3, "xabc"), true},
		{ed(4, 2, "x"), ed(4, 3, "xbc"), true},
		{ed(4, 4, "x"), ed(4, 3, "x"), true},
		{ed(4, 5, "x"), ed(4, 4, "x"), true},
		{ed(0, 4, "x"), api.Edit{}, false},
		{ed(0, 5, "x"), ed(0, 7, "xabc"), true},
		{ed(0, 20, "x"), ed(0, 19, "x"), true},
	} {
		wantCompose(t, a, c.b, c.want, c.can)
	}
	wantCompose(t, ed(3, 4, ""), ed(3, 4, ""), ed(3, 8, ""), true)
	wantCompose(t, ed(3, 4, ""), ed(2, 1, ""), ed(2, 5, ""), true)
	wantCompose(t, ed(3, 4, ""), ed(4, 0, ""), api.Edit{}, false)
	wantCompose(t, ed(3, 4, ""), ed(2, 0, ""), api.Edit{}, false)
	wantCompose(t, api.Edit{}, api.Edit{}, api.Edit{}, true)
}

func TestBoundsOfCompose(t *testing.T) {
	long := func(n int) []byte { return slices.Repeat([]byte("a"), n) }
	for _, n := range []int{-1, api.MaxText + 1, math.MaxInt, math.MinInt} {
		refusedBoth(t, api.Edit{At: n})
		refusedBoth(t, api.Edit{Del: n})
		refusedBoth(t, api.Edit{At: n, Del: n})
		refusedBoth(t, api.Edit{Del: n, Ins: []byte("a")})
	}
	refusedBoth(t, api.Edit{Ins: long(api.MaxText + 1)})
	top := api.Edit{At: api.MaxText, Del: api.MaxText, Ins: long(api.MaxText)}
	wantCompose(t, top, api.Edit{At: 2 * api.MaxText}, api.Edit{}, false)
	wantCompose(t, top, api.Edit{At: api.MaxText, Del: api.MaxText, Ins: long(api.MaxText)}, top, true)
	wantCompose(t, top, api.Edit{At: api.MaxText, Ins: long(1)}, api.Edit{}, false)
	wantCompose(t, top, api.Edit{At: api.MaxText, Del: 1, Ins: long(1)}, top, true)
	wantCompose(t, top, api.Edit{Del: api.MaxText}, api.Edit{Del: 2 * api.MaxText, Ins: top.Ins}, true)
	wantCompose(t, api.Edit{Ins: long(api.MaxText)}, api.Edit{At: api.MaxText, Ins: long(1)}, api.Edit{}, false)
	wantCompose(t, api.Edit{Ins: long(api.MaxText - 1)}, api.Edit{At: api.MaxText - 1, Ins: long(1)}, api.Edit{Ins: long(api.MaxText)}, true)
	wantCompose(t, api.Edit{Ins: long(api.MaxText - 1)}, api.Edit{At: 7, Ins: long(2)}, api.Edit{}, false)
	wantCompose(t, api.Edit{Ins: long(1)}, api.Edit{Ins: long(api.MaxText)}, api.Edit{}, false)
	wantCompose(t, api.Edit{Ins: long(1)}, api.Edit{Del: 1, Ins: long(api.MaxText)}, api.Edit{Ins: long(api.MaxText)}, true)
}

// composed is what Compose answers of edits within its bounds, byte by byte as the chapter says it.
func composed(a, b api.Edit) (api.Edit, bool) {
	end := a.At + len(a.Ins)
	if b.At > end || b.At+b.Del < a.At {
		return api.Edit{}, false
	}
	one := api.Edit{At: min(a.At, b.At), Del: a.Del}
	for place := b.At; place < b.At+b.Del; place++ {
		if place < a.At || place >= end {
			one.Del++
		}
	}
	var back []byte
	for i, c := range a.Ins {
		if a.At+i < b.At {
			one.Ins = append(one.Ins, c)
		}
		if a.At+i >= b.At+b.Del {
			back = append(back, c)
		}
	}
	one.Ins = slices.Concat(one.Ins, b.Ins, back)
	return one, true
}

// TestComposeOfAny has edits near one another, and the texts that both fit.
func TestComposeOfAny(t *testing.T) {
	d := rand.New(rand.NewSource(504))
	for range 20000 {
		text := someText(d, d.Intn(12))
		a := someEdit(d, len(text))
		between := edited(text, a)
		b := someEdit(d, len(between))
		want, can := composed(a, b)
		wantCompose(t, a, b, want, can)
		one, ok := relex.Compose(a, b)
		if !ok {
			continue
		}
		if one.At < 0 || one.Del < 0 || one.At+one.Del > len(text) {
			t.Fatalf("P506: %v, %v: %v does not fit %q", a, b, one, text)
		}
		if got, want := edited(text, one), edited(between, b); got != want {
			t.Fatalf("P506: %v, %v: %v makes %q of %q, not %q", a, b, one, got, text, want)
		}
	}
}

// TestComposedLeaves holds one edit against the two that it does.
func TestComposedLeaves(t *testing.T) {
	d := rand.New(rand.NewSource(507))
	for range 1500 {
		s, text := someScanner(d), someText(d, d.Intn(20))
		a := someEdit(d, len(text))
		between := edited(text, a)
		b := someEdit(d, len(between))
		one, ok := relex.Compose(a, b)
		if !ok {
			continue
		}
		by1, _, _ := relexed(t, s, text, one)
		by2, _, _ := relexed(t, s, between, b)
		if !slices.Equal(by1, by2) {
			t.Fatalf("P506: %q by %v, %v and by %v: %v, %v", text, a, b, one, by2, by1)
		}
	}
}

// TestComposeSharesNothing writes over what is told, its spare room too, and looks at what was handed in.
func TestComposeSharesNothing(t *testing.T) {
	for _, c := range [][2]api.Edit{
		{ed(3, 0, "abc"), ed(3, 0, "")}, {ed(3, 0, "abc"), ed(6, 0, "")}, {ed(3, 0, "abc"), ed(5, 0, "")},
		{ed(3, 0, ""), ed(3, 0, "abc")}, {ed(3, 0, "abc"), ed(3, 3, "xyz")}, {ed(3, 0, "abc"), ed(4, 1, "xyz")},
		{ed(3, 0, "abc"), ed(3, 3, "")}, {ed(3, 0, "abc"), ed(6, 0, "xyz")},
	} {
		a, b := c[0], c[1]
		a.Ins, b.Ins = filled(a.Ins, 9, '1'), filled(b.Ins, 9, '2')
		first, second := slices.Clone(a.Ins[:cap(a.Ins)]), slices.Clone(b.Ins[:cap(b.Ins)])
		one, _ := relex.Compose(a, b)
		for i := range one.Ins[:cap(one.Ins)] {
			one.Ins[:cap(one.Ins)][i] = '?'
		}
		if !slices.Equal(a.Ins[:cap(a.Ins)], first) || !slices.Equal(b.Ins[:cap(b.Ins)], second) {
			t.Errorf("P2: %v, %v: an argument was changed", c[0], c[1])
		}
	}
}
