package relex_test

import (
	"math/big"
	"math/rand"
	"slices"
	"testing"

	"graft/api"
	"graft/expr"
	"graft/rope"
	"graft/scan"
)

func lf(kind, skip, length, reach int) api.Leaf {
	return api.Leaf{Kind: kind, Skip: skip, Len: length, Reach: reach}
}

func ed(at, del int, ins string) api.Edit {
	return api.Edit{At: at, Del: del, Ins: []byte(ins)}
}

func sameEdit(a, b api.Edit) bool {
	return a.At == b.At && a.Del == b.Del && string(a.Ins) == string(b.Ins)
}

// made is the scanner of rules given as texts; one that begins with '@' is trivia.
func made(t *testing.T, texts ...string) *scan.Scanner {
	t.Helper()
	var lex []api.LexRule
	for _, text := range texts {
		trivia := text[0] == '@'
		if trivia {
			text = text[1:]
		}
		e, f := expr.Parse(text)
		if f.Err != api.OK {
			t.Fatalf("%s: %+v", text, f)
		}
		lex = append(lex, api.LexRule{Trivia: trivia, Expr: e})
	}
	s, f := scan.New(lex)
	if s == nil || f != (api.Fault{}) {
		t.Fatalf("%v: %+v", texts, f)
	}
	return s
}

// ten are the rules of the document's ten examples.
func ten(t *testing.T) *scan.Scanner {
	t.Helper()
	return made(t, "[0-9]+", `\+`, ";", "@ +")
}

func ropeOf(t *testing.T, text string) *rope.Rope {
	t.Helper()
	r, e := rope.New([]byte(text))
	if r == nil || e != api.OK {
		t.Fatalf("rope: %v", e)
	}
	return r
}

// edited is the text that an edit makes.
func edited(text string, e api.Edit) string {
	return text[:e.At] + string(e.Ins) + text[e.At+e.Del:]
}

// undone is the edit that takes back what e did to a text.
func undone(text string, e api.Edit) api.Edit {
	return ed(e.At, len(e.Ins), text[e.At:e.At+e.Del])
}

// sum is how many bytes leaves have, as an exact number.
func sum(l []api.Leaf) *big.Int {
	n := new(big.Int)
	for _, leaf := range l {
		n.Add(n, big.NewInt(int64(leaf.Skip)))
		n.Add(n, big.NewInt(int64(leaf.Len)))
	}
	return n
}

// most tells whether a + b is at most c, as exact numbers.
func most(a *big.Int, b, c int) bool {
	return new(big.Int).Add(a, big.NewInt(int64(b))).Cmp(big.NewInt(int64(c))) <= 0
}

// isRow says whether l is a row of leaves of at most MaxText bytes, word by word as the chapter says it.
func isRow(l []api.Leaf) bool {
	ends := 0
	for _, leaf := range l {
		if leaf.Skip < 0 || leaf.Len < 0 {
			return false
		}
		if leaf.Kind == api.KEnd {
			ends++
		}
	}
	return ends == 1 && l[len(l)-1].Kind == api.KEnd && most(sum(l), 0, api.MaxText)
}

// damage is what Damage answers, word by word as the chapter says it.
func damage(l []api.Leaf, e api.Edit) (from, to int, err api.Errno) {
	if !isRow(l) {
		return 0, 0, api.ErrLeaves
	}
	n := int(sum(l).Int64())
	if e.At < 0 || e.Del < 0 || !most(big.NewInt(int64(e.At)), e.Del, n) || n-e.Del+len(e.Ins) > api.MaxText {
		return 0, 0, api.ErrEdit
	}
	stands := func(i int) bool { return most(sum(l[:i]), max(l[i].Reach, 0), e.At) }
	for from < len(l) && stands(from) {
		from++
	}
	for i := from; i < len(l); i++ {
		if !most(sum(l[:i]), 1, e.At+e.Del) {
			return from, i, api.OK
		}
	}
	return from, len(l), api.OK
}

// kept is what Relex tells as behind, word by word as the chapter says it: tried from the greatest number on.
func kept(old, new []api.Leaf, e api.Edit) int {
	for m := min(len(old), len(new)); m > 0; m-- {
		i, j := len(old)-m, len(new)-m
		if sum(old[i:]).Cmp(sum(new[j:])) == 0 && beginFrom(old, i, e.At+e.Del) && beginFrom(new, j, e.At+len(e.Ins)) {
			return m
		}
	}
	return 0
}

// beginFrom says whether the leaves from the i-th on begin at a place or behind it.
func beginFrom(l []api.Leaf, i, place int) bool {
	for ; i < len(l); i++ {
		if most(sum(l[:i]), 1, place) {
			return false
		}
	}
	return true
}

// some is a tree of at most that depth, over the bytes a to c.
func some(d *rand.Rand, depth int) api.Expr {
	if depth == 1 || d.Intn(4) == 0 {
		from := 'a' + d.Intn(3)
		return api.Expr{Kind: api.XRange, From: from, To: from + d.Intn('d'-from)}
	}
	list := []api.Expr{some(d, depth-1), some(d, depth-1)}
	switch d.Intn(6) {
	case 0, 1:
		return api.Expr{Kind: api.XSeq, List: list}
	case 2:
		return api.Expr{Kind: api.XAlt, List: list}
	}
	least := d.Intn(3)
	return api.Expr{Kind: api.XRepeat, Min: least, Max: []int{-1, least + d.Intn(3)}[d.Intn(2)], List: list[:1:1]}
}

// someScanner is one of rules that look far and near.
func someScanner(d *rand.Rand) *scan.Scanner {
	var lex []api.LexRule
	for n := d.Intn(6); len(lex) < n; {
		if e := some(d, 1+d.Intn(5)); expr.Check(e) == api.OK && !expr.Empty(e) {
			lex = append(lex, api.LexRule{Trivia: d.Intn(3) == 0, Expr: e})
		}
	}
	if s, _ := scan.New(lex); s != nil {
		return s
	}
	return someScanner(d) // the rules have too many sets
}

// someText is a text of n bytes; one byte in thirty is of no rule that someScanner makes.
func someText(d *rand.Rand, n int) string {
	b := make([]byte, n)
	for i := range b {
		b[i] = byte('a' + d.Intn(3))
		if d.Intn(30) == 0 {
			b[i] = byte(d.Intn(256))
		}
	}
	return string(b)
}

// someEdit is one that fits a text of n bytes, often at its begin or its end, and often of few bytes.
func someEdit(d *rand.Rand, n int) api.Edit {
	at := []int{0, n, d.Intn(n + 1), d.Intn(n + 1)}[d.Intn(4)]
	del := min([]int{0, 1, d.Intn(4), d.Intn(n - at + 1)}[d.Intn(4)], n-at)
	return ed(at, del, someText(d, []int{0, 1, d.Intn(4), d.Intn(12)}[d.Intn(4)]))
}

// filled is a copy of a list with spare room, all of it set.
func filled[T any](list []T, spare int, with T) []T {
	long := slices.Concat(list, slices.Repeat([]T{with}, spare))
	return long[:len(list)]
}
