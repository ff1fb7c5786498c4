package engine_test

import (
	"slices"
	"testing"

	"graft/api"
	"graft/engine"
	"graft/rope"
	"graft/tree"
)

// shot is all that a version tells.
type shot struct {
	text   string
	rope   *rope.Rope
	leaves []api.Leaf
	rows   []api.Row
	root   *tree.Node
	errors []api.Span
	parent int
	edit   api.Edit
}

// take is what a version that there is tells.
func take(t testing.TB, d *engine.Doc, version int) shot {
	t.Helper()
	s, e := asked(d, version)
	if e != ([7]api.Errno{}) {
		t.Fatalf("P1305: %v of version %d", e, version)
	}
	return s
}

// asked asks a version everything.
func asked(d *engine.Doc, version int) (s shot, e [7]api.Errno) {
	var b []byte
	var o api.Origin
	b, e[0] = d.Text(version)
	s.rope, e[1] = d.Rope(version)
	s.leaves, e[2] = d.Leaves(version)
	s.rows, e[3] = d.Tree(version)
	s.root, e[4] = d.Root(version)
	s.errors, e[5] = d.Errors(version)
	o, e[6] = d.From(version)
	s.text, s.parent, s.edit = string(b), o.Parent, o.Edit
	return s, e
}

// same says whether two are alike in everything, Ids too.
func (s shot) same(o shot) bool {
	return s.alike(o) && s.root == o.root && slices.Equal(s.rows, o.rows) && s.parent == o.parent && sameEdit(s.edit, o.edit)
}

// alike says whether two are of one text: alike in everything but for Ids, and where they come from.
func (s shot) alike(o shot) bool {
	return s.text == o.text && s.rope.Equal(o.rope) && slices.Equal(s.leaves, o.leaves) && slices.Equal(bare(s.rows), bare(o.rows)) && slices.Equal(s.errors, o.errors)
}

func sameEdit(a, b api.Edit) bool {
	return a.At == b.At && a.Del == b.Del && string(a.Ins) == string(b.Ins)
}

// bare are rows, Ids left out.
func bare(rows []api.Row) []api.Row {
	rows = slices.Clone(rows)
	for i := range rows {
		rows[i].Id = 0
	}
	return rows
}

// edited is the text that an edit makes.
func edited(text string, e api.Edit) string {
	return text[:e.At] + string(e.Ins) + text[e.At+e.Del:]
}

// watch holds what a document tells against the words of the document, version by version, and keeps in mind what each version must tell for ever.
type watch struct {
	e     *engine.Engine
	m     *model // nil: texts are held against none, but against themselves opened afresh
	d     *engine.Doc
	shots []shot
	seen  map[int]*tree.Node // all nodes that were there, by their Ids
}

func watching(e *engine.Engine, m *model, d *engine.Doc) *watch {
	return &watch{e: e, m: m, d: d, seen: map[int]*tree.Node{}}
}

// watched opens a document, and watches it.
func watched(t testing.TB, e *engine.Engine, m *model, text string) *watch {
	t.Helper()
	w := watching(e, m, opened(t, e, text))
	w.follow(t, text, api.Origin{Parent: -1, Edit: api.Edit{Ins: []byte(text)}})
	return w
}

// edit edits a version, and looks at what came of it, and at all that was there.
func (w *watch) edit(t testing.TB, version int, change api.Edit) {
	t.Helper()
	n, e := w.d.Edit(version, change.At, change.Del, change.Ins)
	if n != len(w.shots) || e != api.OK {
		t.Fatalf("P1303: %d %v of version %d by %v", n, e, version, change)
	}
	w.follow(t, edited(w.shots[version].text, change), api.Origin{Parent: version, Edit: change})
	w.wantSame(t, version, change)
	w.note(t)
	w.stays(t)
}

// refused is an Edit that must answer an error, and change nothing.
func (w *watch) refused(t testing.TB, version, at, del int, ins []byte, want api.Errno) {
	t.Helper()
	if n, e := w.d.Edit(version, at, del, ins); n != 0 || e != want {
		t.Errorf("P1303: %d %v of version %d by %d %d and %d bytes, not %v", n, e, version, at, del, len(ins), want)
	}
	w.stays(t)
}

// follow takes the newest version up: what it tells must be that of its text, and of its origin.
func (w *watch) follow(t testing.TB, text string, from api.Origin) {
	t.Helper()
	s := take(t, w.d, len(w.shots))
	if s.text != text || string(s.rope.Bytes()) != text {
		t.Fatalf("P1305: the text %q, not %q", s.text, text)
	}
	if s.parent != from.Parent || !sameEdit(s.edit, from.Edit) {
		t.Fatalf("P1304: from %d by %v, not %v", s.parent, s.edit, from)
	}
	w.wantText(t, s)
	wantWhole(t, s)
	w.shots = append(w.shots, s)
	if len(w.shots) == 1 {
		w.note(t)
	}
}

// wantText is P1305, P1307 and P1308: what a version tells is what its text has.
func (w *watch) wantText(t testing.TB, s shot) {
	t.Helper()
	if afresh := take(t, opened(t, w.e, s.text), 0); !s.alike(afresh) {
		t.Fatalf("P1308: of %q: %+v, not %+v", s.text, s, afresh)
	}
	if w.m == nil {
		return
	}
	leaves := w.m.leaves(s.text)
	if !slices.Equal(s.leaves, leaves) {
		t.Fatalf("P11: of %q: %v, not %v", s.text, s.leaves, leaves)
	}
	p := w.m.tree(leaves)
	if !slices.Equal(bare(s.rows), p.rows()) {
		t.Fatalf("P13: of %q: %v, not %v", s.text, bare(s.rows), p.rows())
	}
	if want := p.errors(leaves); !slices.Equal(s.errors, want) {
		t.Fatalf("P1307: of %q: %v, not %v", s.text, s.errors, want)
	}
}

// wantWhole is P1310, and what P1305 says of Root.
func wantWhole(t testing.TB, s shot) {
	t.Helper()
	var below []api.Leaf
	for _, n := range s.root.Leaves() {
		l, _ := n.Leaf()
		below = append(below, l)
	}
	if at := begins(s.leaves); at[len(s.leaves)] != len(s.text) || !slices.Equal(below, s.leaves) {
		t.Fatalf("P1310: of %q: the leaves %v, those of the tree %v", s.text, s.leaves, below)
	}
	if !slices.Equal(s.root.Rows(), s.rows) {
		t.Fatalf("P1305: of %q: the root has the rows %v, not %v", s.text, s.root.Rows(), s.rows)
	}
	if (len(s.errors) > 0) != s.root.Failed() {
		t.Fatalf("P1310: of %q: %v, failed: %v", s.text, s.errors, s.root.Failed())
	}
}

// note keeps the nodes of the newest version in mind. All are of one store: no two have one number.
func (w *watch) note(t testing.TB) {
	t.Helper()
	for _, n := range w.shots[len(w.shots)-1].root.Walk() {
		if was := w.seen[n.Number()]; n.Number() < 1 || was != nil && was != n {
			t.Fatalf("P1305: two nodes have the number %d", n.Number())
		}
		w.seen[n.Number()] = n
	}
}

// stays is P1309: all versions tell what they told, and there are no more of them.
func (w *watch) stays(t testing.TB) {
	t.Helper()
	if n := w.d.Versions(); n != len(w.shots) {
		t.Fatalf("P1304: %d versions, not %d", n, len(w.shots))
	}
	for i, s := range w.shots {
		if now := take(t, w.d, i); !now.same(s) {
			t.Fatalf("P1309: version %d tells %+v, not %+v", i, now, s)
		}
	}
}

// found is a node of a tree, with the places of its leaves, from the first one to the one behind the last, and its rows without Ids.
type found struct {
	node     *tree.Node
	from, to int
	rows     []api.Row
	above    int // the place in the list of the node above it; -1 of the top
}

// list tells all nodes of a tree, in the order of its rows.
func list(n *tree.Node) []found {
	var out []found
	rows := bare(n.Rows())
	leaves := 0
	var open []int
	for _, below := range n.Walk() {
		for len(open) > 0 && len(out) >= open[len(open)-1]+out[open[len(open)-1]].node.Size() {
			open = open[:len(open)-1]
		}
		above := -1
		if len(open) > 0 {
			above = open[len(open)-1]
		}
		at := len(out)
		out = append(out, found{below, leaves, leaves + below.Leafs(), rows[at : at+below.Size()], above})
		if below.Kind() == api.NLeaf {
			leaves++
		}
		open = append(open, at)
	}
	return out
}

// searched is P1202 by its words: of each node of a new tree, in the order of rows, whether it must be a node of the old one, and which; of a node without leaves it is not said which.
func searched(old, now *tree.Node, ahead, behind int) (must []bool, which []*tree.Node) {
	olds := map[[2]int][]found{}
	for _, x := range list(old) {
		olds[[2]int{x.from, x.to}] = append(olds[[2]int{x.from, x.to}], x)
	}
	news := list(now)
	must, which = make([]bool, len(news)), make([]*tree.Node, len(news))
	for i, x := range news {
		if x.from == x.to {
			must[i] = must[x.above]
			continue
		}
		shift, ok := moved(x, old.Leafs(), now.Leafs(), ahead, behind)
		if !ok {
			continue
		}
		for _, y := range olds[[2]int{x.from + shift, x.to + shift}] {
			if slices.Equal(x.rows, y.rows) {
				must[i], which[i] = true, y.node
			}
		}
	}
	return must, which
}

// moved tells by how many places the leaves of a node were elsewhere in the old tree; false, if one is not kept, or they did not stand side by side.
func moved(x found, olds, news, ahead, behind int) (int, bool) {
	switch {
	case x.to <= ahead:
		return 0, true
	case x.from >= news-behind:
		return olds - news, true
	case ahead+behind == news && olds == news:
		return 0, true
	}
	return 0, false
}

// wantSame is P1306: which nodes of the newest version are those of the one that was edited.
func (w *watch) wantSame(t testing.TB, version int, change api.Edit) {
	t.Helper()
	old, now := w.shots[version], w.shots[len(w.shots)-1]
	ahead, behind := kept(old.leaves, now.leaves, change)
	inOld := map[*tree.Node]bool{}
	for _, n := range old.root.Walk() {
		inOld[n] = true
	}
	must, which := searched(old.root, now.root, ahead, behind)
	for i, x := range list(now.root) {
		switch {
		case !must[i] && w.seen[x.node.Number()] != nil:
			t.Fatalf("P1306: %q to %q: node %d was there", old.text, now.text, i)
		case must[i] && (!inOld[x.node] || which[i] != nil && which[i] != x.node):
			t.Fatalf("P1306: %q to %q: node %d is not the old one", old.text, now.text, i)
		}
	}
}
