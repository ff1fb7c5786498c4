package reuse_test

import (
	"slices"
	"strings"
	"testing"

	"graft/api"
	"graft/parse"
	"graft/reuse"
	"graft/table"
	"graft/tree"
)

// The languages of long texts: a nest, and statements in blocks, the list growing on the right, with error productions at different places.
const (
	nest      = "token l = /l/; token r = /r/; token x = /x/; start S; S = l S r | x | error;"
	rightList = "token x = /x/; token semi = /;/; token o = /o/; token c = /c/; start B; B = S B | ; S = x semi | error semi | o B c;"
	twoLists  = "token x = /x/; token y = /y/; token z = /z/; start P; P = R L | z R M; R = x R | ; L = L y | y; M = M y | y;"
	rightEnd  = "token x = /x/; token semi = /;/; token o = /o/; token c = /c/; start B; B = S B | ; S = x semi | o B c | o B error c;"
)

// long is a tree of a long text, with edits of it: each puts something in at a place.
type long struct {
	what, spec, signs, text string
	edits                   []change
}

// change is something put in, and how many nodes are old ones then.
type change struct {
	at   int
	ins  string
	kept int
}

// longTexts are right and wrong ones, flat and deep, nearly as long as may be.
func longTexts() []long {
	const n = api.MaxText - 4
	return []long{
		{"deep", nest, "lrx", strings.Repeat("l", n/2-1) + "x" + strings.Repeat("r", n/2-1), []change{{0, "lr", n}, {n/2 - 1, "l", n + 1}, {n / 2, "x", n}, {n - 2, "#", 3*n/2 - 2}}},
		{"deep, never closed", nest, "lrx", strings.Repeat("l", n), []change{{0, "x", n + 1}, {n / 2, "r", n + 1}, {n, "x", n + 1}}},
		{"a list on the left", blocks, "x;oc", strings.Repeat("x;", n/2), []change{{0, "x;", 2*n + 1}, {n / 2, "c", 9 * n / 4}, {n, "x;", 5*n/2 + 2}}},
		{"a list on the left, wrong at first", blocks, "x;oc", ";" + strings.Repeat("x;", n/2), []change{{1, "x;", 0}, {n + 1, "x;", 5*n/2 + 6}}},
		{"errors on the left", blocks, "x;oc", strings.Repeat("xx;;", n/4), []change{{0, "x;", 0}, {n / 2, "c", 0}, {n, "x;", 0}}},
		{"the leaf that would help never comes", blocks, "x;oc", strings.Repeat("ox;", n/3), []change{{0, "x;", 0}, {n / 2, "x;", 0}}},
		{"a list on the right", rightList, "x;oc", strings.Repeat("x;", n/2), []change{{0, "x;", 2*n + 2}, {n / 2, "c", 0}, {n, "x;", 0}}},
		{"errors on the right", rightList, "x;oc", strings.Repeat("x;c;", n/4), []change{{0, "x;", 0}, {n, "x;", 0}}},
		{"an error that all trees are tried for", rightEnd, "x;oc", strings.Repeat("x;", n/2-1), []change{{0, "c", n - 1}, {n / 2, "c", n - 1}, {n - 2, "c", n - 1}}},
		{"a deep tree that can't stand behind a deep stack", twoLists, "xyz", strings.Repeat("x", n/2) + strings.Repeat("y", n/2), []change{{0, "z", 3*n/2 + 2}}},
		{"that, in a block that is closed", rightEnd, "x;oc", "o" + strings.Repeat("x;", n/2-2) + "##c", []change{{1, "x;", 0}, {n / 2, "c", 0}}},
	}
}

// TestLong is P1 and P1013: none of these may fail, or cost as much as the square of the text's length.
func TestLong(t *testing.T) {
	for _, c := range longTexts() {
		t.Run(c.what, func(t *testing.T) {
			t.Parallel()
			x, m := made(t, c.spec), tree.New()
			leaves := row(c.signs, c.text)
			old, _, e := parse.Build(x, m, leaves)
			if e != api.OK {
				t.Fatal(e)
			}
			was := old.Rows()
			for _, d := range c.edits {
				n := wantLong(t, x, m, old, row(c.signs, c.text[:d.at]+d.ins+c.text[d.at:]), d)
				back, count, e := reuse.Parse(x, m, n, leaves, d.at, len(leaves)-d.at)
				if e != api.OK || back.Size() != old.Size() || count.Kept < len(leaves) {
					t.Errorf("P1201: back from %d: %v %v", d.at, count, e)
				}
			}
			if !slices.Equal(old.Rows(), was) {
				t.Error("P1204")
			}
		})
	}
}

// wantLong holds a tree out of an older one against Build's; and by Numbers against the count.
func wantLong(t *testing.T, x *table.Table, m *tree.Store, old *tree.Node, now []api.Leaf, d change) *tree.Node {
	t.Helper()
	n, count, e := reuse.Parse(x, m, old, now, d.at, old.Leafs()-d.at)
	if e != api.OK {
		t.Fatalf("P1201: at %d: %v", d.at, e)
	}
	want, _, _ := parse.Build(x, tree.New(), now)
	if !slices.Equal(bare(n), bare(want)) || !slices.Equal(leavesOf(n), now) {
		t.Errorf("P1201: at %d", d.at)
	}
	ids := map[int]bool{}
	for _, r := range old.Rows() {
		ids[r.Id] = true
	}
	kept := 0
	for _, r := range n.Rows() {
		if ids[r.Id] {
			kept++
		}
	}
	if count != (api.Count{Kept: kept, Fresh: n.Size() - kept}) || d.kept > 0 && kept != d.kept {
		t.Errorf("P1203: at %d: %v, there are %d of %d, not %d", d.at, count, kept, n.Size(), d.kept)
	}
	return n
}

// TestLittle: where most of a tree stands again little is made, far less than the whole tree.
func TestLittle(t *testing.T) {
	const n = 1 << 12
	for _, c := range []struct {
		what, spec, signs, text string
		at                      int
		ins                     string
		most                    float64
	}{
		{"the end of a list on the left", blocks, "x;oc", strings.Repeat("x;", n), 2 * n, "x;", 300},
		{"the end of a list on the left, wrong in its last part", blocks, "x;oc", strings.Repeat("x;", n) + ";;x;;", 2 * n, "x;", 300},
		{"the front of a list on the right", rightList, "x;oc", strings.Repeat("x;", n), 0, "x;", 300},
		{"the front of a list on the right, wrong in its first part", rightList, "x;oc", "c;x;c;" + strings.Repeat("x;", n), 0, "x;", 500},
		{"a statement in a block", blocks, "x;oc", "x;" + strings.Repeat("o", n) + "x" + strings.Repeat("c", n) + ";x;", 2*n + 4, "x;", 300},
	} {
		x, m := made(t, c.spec), tree.New()
		old, _, _ := parse.Build(x, m, row(c.signs, c.text))
		now := row(c.signs, c.text[:c.at]+c.ins+c.text[c.at:])
		if got := testing.AllocsPerRun(3, func() { reuse.Parse(x, m, old, now, c.at, old.Leafs()-c.at) }); got > c.most {
			t.Errorf("%s: %v pieces of memory for a tree of %d rows", c.what, got, old.Size())
		}
	}
}

// TestManyEdits makes a text longer and shorter by many edits, each tree out of the last one.
func TestManyEdits(t *testing.T) {
	x, m := made(t, ten), tree.New()
	text := strings.Repeat("1+1;", 300)
	root, _, _ := parse.Build(x, m, row("1+;", text))
	for i := range 2000 {
		at := i * 7 % len(text)
		now := text[:at] + ";" + text[at:]
		if i%2 == 1 {
			at = (i - 1) * 7 % (len(text) - 1)
			now = text[:at] + text[at+1:]
		}
		next, _, e := reuse.Parse(x, m, root, row("1+;", now), at, min(len(now), len(text))+1-at-i%2)
		if e != api.OK {
			t.Fatalf("P1201: %d: %v", i, e)
		}
		if i%100 < 2 {
			want, _, _ := parse.Build(x, tree.New(), row("1+;", now))
			if !slices.Equal(bare(next), bare(want)) {
				t.Fatalf("P1201: %d", i)
			}
		}
		root, text = next, now
	}
}
