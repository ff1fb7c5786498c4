package reuse_test

import (
	"math/rand"
	"slices"
	"strings"
	"testing"

	"graft/api"
	"graft/reuse"
	"graft/table"
	"graft/tree"
)

// TestEdits is P1201 to P1205 and P1207 for many edits of many texts of many languages, each out of the tree that was made last, or of an older one.
func TestEdits(t *testing.T) {
	met := map[string]int{}
	sound(t, 1201, 2500, func(r *rand.Rand, s api.Spec, x *table.Table) {
		w, b := newWriter(r, s), newBench(x)
		trees := []*tree.Node{b.first(t, w.text(40))}
		for range 24 {
			old := trees[len(trees)-1]
			if r.Intn(5) == 0 || old.Kind() == api.NBroken && r.Intn(4) > 0 {
				old = trees[r.Intn(len(trees))]
			}
			leaves := w.next(old, 40)
			switch r.Intn(8) {
			case 0:
				leaves = w.text(40)
			case 1:
				leaves = leavesOf(trees[r.Intn(len(trees))])
			}
			ahead, behind := most(leavesOf(old), leaves)
			if r.Intn(6) == 0 {
				ahead, behind = r.Intn(ahead+1), r.Intn(behind+1)
			}
			n, c := b.next(t, old, leaves, ahead, behind)
			count(met, old, n, c)
			trees = append(trees, n)
		}
	})
	for _, what := range []string{"right to right", "right to wrong", "right to broken", "wrong to right", "wrong to wrong", "wrong to broken", "broken to right", "broken to wrong", "broken to broken", "all", "none", "a great right one", "a wrong one", "an error node", "an error node over nothing", "one over nothing"} {
		if met[what] < 1000 {
			t.Errorf("too few texts: %s: %d", what, met[what])
		}
	}
}

// count keeps in mind what kinds of edits, and of old nodes that stay, were met.
func count(met map[string]int, old, n *tree.Node, c api.Count) {
	met[sort(old)+" to "+sort(n)]++
	switch {
	case c.Fresh == 0:
		met["all"]++
		return
	case c.Kept == 0:
		met["none"]++
	}
	inOld := map[*tree.Node]bool{}
	for _, below := range old.Walk() {
		inOld[below] = true
	}
	for _, below := range n.Walk() {
		switch {
		case !inOld[below] || below.Kind() == api.NLeaf:
		case below.Kind() == api.NInner && !below.Failed() && below.Leafs() > 3:
			met["a great right one"]++
		case below.Kind() == api.NInner && below.Failed():
			met["a wrong one"]++
		case below.Kind() == api.NError && below.Leafs() > 0:
			met["an error node"]++
		case below.Kind() == api.NError:
			met["an error node over nothing"]++
		case below.Leafs() == 0:
			met["one over nothing"]++
		}
	}
}

// sort is what kind of text a tree has.
func sort(n *tree.Node) string {
	switch {
	case n.Kind() == api.NBroken:
		return "broken"
	case n.Failed():
		return "wrong"
	}
	return "right"
}

// TestMoreKept is P1206: each node that is an old one is the same old one, if more leaves are kept.
func TestMoreKept(t *testing.T) {
	more := 0
	sound(t, 1206, 400, func(r *rand.Rand, s api.Spec, x *table.Table) {
		w, b := newWriter(r, s), newBench(x)
		for range 6 {
			old := b.first(t, w.text(50))
			leaves := w.next(old, 50)
			ahead, behind := most(leavesOf(old), leaves)
			was, _ := b.next(t, old, leaves, 0, 0)
			for _, k := range [][2]int{{ahead / 3, 0}, {ahead / 2, behind / 3}, {ahead / 2, behind / 2}, {ahead, behind / 2}, {ahead, behind}} {
				n, _ := b.next(t, old, leaves, k[0], k[1])
				more += wantMore(t, old, was, n)
				was = n
			}
		}
	})
	if more < 20000 {
		t.Errorf("too few nodes: %d", more)
	}
}

// wantMore holds the old nodes of a tree against those of the same tree with more leaves kept; it tells how many more there are.
func wantMore(t *testing.T, old, less, more *tree.Node) (count int) {
	t.Helper()
	ids := map[int]bool{}
	for _, r := range old.Rows() {
		ids[r.Id] = true
	}
	a, b := less.Rows(), more.Rows()
	for i := range a {
		switch {
		case ids[a[i].Id] && a[i] != b[i]:
			t.Fatalf("P1206: node %d of %v", i, a)
		case ids[b[i].Id] && !ids[a[i].Id]:
			count++
		}
	}
	return count
}

// TestManyErrors: texts with errors at many places, more than a machine mends one by one, out of trees with many errors and with none.
func TestManyErrors(t *testing.T) {
	r := rand.New(rand.NewSource(1213))
	met := map[string]int{}
	for _, c := range []struct{ spec, signs, parts string }{
		{ten, "1+;", "1;|;|1 1;|1+1;|#;|1+;"},
		{blocks, "x;oc", "x;|;|xx;|oxc;|oxxc;|ox;|#;|ooxcc;"},
		{twoBlocks, "x;ocqp", "x|;|oxc|qxp|oxp;|c;|q#;p|oqxpc"},
	} {
		b := newBench(made(t, c.spec))
		parts := strings.Split(c.parts, "|")
		text := ""
		for range 120 {
			text += parts[r.Intn(len(parts))]
		}
		root := b.first(t, row(c.signs, text))
		for range 60 {
			from := r.Intn(len(text))
			to := min(len(text), from+r.Intn(6))
			if r.Intn(8) == 0 {
				to = min(len(text), from+r.Intn(300))
			}
			text = text[:from] + strings.Repeat(parts[r.Intn(len(parts))], r.Intn(3)) + text[to:]
			for len(text) < 200 {
				text += parts[r.Intn(len(parts))]
			}
			leaves := row(c.signs, text)
			ahead, behind := most(leavesOf(root), leaves)
			n, count := b.next(t, root, leaves, ahead, behind)
			if errors(n) > 20 && count.Kept > n.Size()/2 {
				met["many"]++
			} else if n.Kind() == api.NRoot && count.Kept > n.Size()/2 {
				met["few"]++
			}
			root = n
		}
	}
	if met["many"] < 40 {
		t.Errorf("too few texts: %v", met)
	}
}

// errors tells how many error nodes a tree has.
func errors(n *tree.Node) (count int) {
	for _, r := range n.Rows() {
		if r.Kind == api.NError {
			count++
		}
	}
	return count
}

// TestBlocks: what goes on behind an old subtree hangs on what lies below it. A block's first leaf or its last one becomes another, or goes, or comes.
func TestBlocks(t *testing.T) {
	b := newBench(made(t, twoBlocks))
	for _, c := range [][2]string{
		{"oxxxc", "qxxxc"}, {"oxxxc", "qxxxp"}, {"oxxxc", "xxxc"}, {"xxx", "oxxx"}, {"oxxc;x", "qxxc;x"}, {"ooxxccx", "oqxxccx"},
		{"ooxxccxc", "oqxxccxc"}, {"oxqxpxc", "oxqxpxp"}, {"oxqxxpxc", "qxqxxpxc"}, {"oxqxxpxcxx", "xqxxpxcxx"}, {"oxqxxpxc;oxxc", "qxqxxpxc;oxxc"},
		{"qxqxxpxc;oxxc", "oxqxxpxc;oxxc"}, {"oxc;oxc;oxc", "qxc;oxc;oxc"}, {"ooooxcccc", "qoooxcccc"}, {"qoooxcccc", "ooooxcccc"}, {"qoooxcccp", "oooxcccp"},
	} {
		old := b.first(t, row("x;ocqp", c[0]))
		now := row("x;ocqp", c[1])
		ahead, behind := most(leavesOf(old), now)
		n, _ := b.next(t, old, now, ahead, behind)
		b.next(t, n, leavesOf(old), ahead, behind)
	}
}

// TestTexts edits texts as they are typed: their leaves come out of scanner and relexer, which say what is kept.
func TestTexts(t *testing.T) {
	r := rand.New(rand.NewSource(1205))
	for _, c := range []struct{ spec, text, bytes string }{
		{ten, "12+3 ; 4;5+6+7;  8;\n", "0123456789++;;;  #"},
		{ten, "", "1+;"},
		{blocks, "x;oxc;ooxcc; x;", "xxx;;oc #"},
		{twoBlocks, "oxxqxpcxx", "xx;ocqp"},
		{`token name = /[a-z]+/; token num = /[0-9]+(\.[0-9]+)?/; token text = /"[^"]*"/; token eq = /=/; token o = /\(/; token c = /\)/; token comma = /,/; token semi = /;/; skip s = /[ \n]+/; skip note = /#[^\n]*/; start P; P = P S | ; S = name eq V semi | V semi | error semi; V = num | text | name | name o A c | o error c; A = L | ; L = L comma V | V;`,
			"a = f(1, 2.5, \"x\");\nb = g();# note\nf(a, (b), h(c));\n", "ab 12.,,=()\";;\n#"},
	} {
		for range 6 {
			d := open(t, c.spec, c.text)
			first := d.root
			for range 60 {
				at := r.Intn(d.text.Len() + 1)
				del := min(r.Intn(3)*r.Intn(3), d.text.Len()-at)
				ins := ""
				for range r.Intn(4) {
					k := r.Intn(len(c.bytes))
					ins += c.bytes[k : k+1]
				}
				was := d.root
				d.edit(t, at, del, ins)
				again, _, e := reuse.Parse(d.x, d.m, was, d.leaves, 0, 0)
				if e != api.OK || !slices.Equal(bare(again), bare(d.root)) {
					t.Fatalf("P1201: %v", e)
				}
			}
			if !slices.Equal(leavesOf(first), d.scanner.Leaves(ropeOf(t, c.text))) {
				t.Error("P1204: the first tree has changed")
			}
		}
	}
}
