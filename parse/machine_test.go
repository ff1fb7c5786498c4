package parse_test

import (
	"math"
	"math/rand"
	"slices"
	"testing"

	"graft/api"
	"graft/parse"
	"graft/states"
	"graft/table"
	"graft/tree"
)

// twin is a machine, and a stack on which the same is done by the document's words.
type twin struct {
	t     *testing.T
	m     *model
	a     *states.Automaton
	store *tree.Store
	p     *parse.Machine
	stack []*plain
	met   map[string]int
}

func newTwin(t *testing.T, m *model, x *table.Table, store *tree.Store, met map[string]int) *twin {
	return &twin{t: t, m: m, a: x.States(), store: store, p: parse.New(x, store), met: met}
}

// stateOf is that to which a stack's symbols lead.
func (w *twin) stateOf(stack []*plain) int {
	var row []api.Sym
	for _, x := range w.m.symbols(stack) {
		row = append(row, w.m.sym(x))
	}
	return w.a.Run(row)
}

// wantSame is P1102 and P1103: the machine stands where the stack does, for all that can be asked.
func (w *twin) wantSame() {
	w.t.Helper()
	if w.p.Depth() != len(w.stack) || w.p.State() != w.stateOf(w.stack) {
		w.t.Fatalf("P1102: depth %d, state %d; not %d, %d", w.p.Depth(), w.p.State(), len(w.stack), w.stateOf(w.stack))
	}
	for kind := -4; kind < len(w.m.s.Lex)+4; kind++ {
		if got := w.p.Goes(kind); got != w.m.goesLeaf(w.stack, kind) {
			w.t.Fatalf("P1103: Goes(%d) is %v", kind, got)
		}
	}
	if w.p.Goes(math.MinInt) || w.p.Goes(math.MaxInt) {
		w.t.Fatal("P1103: a number that is no kind goes on")
	}
}

// wantError holds an answer against the document's, and keeps in mind which it was.
func (w *twin) wantError(what string, got, want api.Errno) {
	w.t.Helper()
	if got != want {
		w.t.Fatalf("%s: %v, not %v", what, got, want)
	}
	w.met[what+" "+want.Error()]++
}

// put is P1104.
func (w *twin) put(n *tree.Node) {
	w.t.Helper()
	p := plainOf(n)
	a, ok := w.m.terminal(p.leaf.Kind)
	want := api.OK
	switch {
	case p.kind != api.NLeaf || p.leaf.Kind == api.KEnd || !ok && p.leaf.Kind != api.KBad:
		want = api.ErrLeaf
	case !w.m.goesLeaf(w.stack, p.leaf.Kind):
		want = api.ErrGoes
	default:
		w.stack, _ = w.m.ready(w.stack, a)
		w.stack = append(w.stack, p)
	}
	w.wantError("P1104", w.p.Put(n), want)
}

// take is P1105.
func (w *twin) take(n *tree.Node, at int) {
	w.t.Helper()
	stack, ok := w.taken(plainOf(n), at)
	want := api.ErrGoes
	if ok {
		want, w.stack = api.OK, stack
	}
	w.wantError("P1105", w.p.Take(n, at), want)
}

// taken is the stack behind Take; false: there is an error.
func (w *twin) taken(p *plain, at int) ([]*plain, bool) {
	if p.kind != api.NInner || p.n >= len(w.m.s.Productions) || p.failed() || len(p.leaves()) == 0 {
		return nil, false
	}
	through, ok := w.through(p.leaves()[0].Kind)
	if !ok {
		return nil, false
	}
	for k, stack := range through {
		if w.stateOf(stack) != at {
			continue
		}
		left := api.Sym{Kind: api.SName, N: w.m.s.Productions[p.n].Left}
		if w.a.Go(at, left) < 0 {
			w.met["P1105 nothing behind"]++
			return nil, false
		}
		if k > 0 {
			w.met["P1105 behind productions"]++
		}
		if k < len(through)-1 {
			w.met["P1105 ahead of productions"]++
		}
		return append(stack, p), true
	}
	w.met["P1105 elsewhere"]++
	return nil, false
}

// through are the stacks that come up when the stack is made ready for a leaf of a kind, itself the first; false, if that does not go on.
func (w *twin) through(kind int) ([][]*plain, bool) {
	a, ok := w.m.terminal(kind)
	if !ok {
		return nil, false
	}
	done, ok := w.m.goes(w.m.symbols(w.stack), a)
	if !ok {
		return nil, false
	}
	var out [][]*plain
	for k := range len(done) + 1 {
		out = append(out, w.m.done(w.stack, done[:k]))
	}
	return out, true
}

// mend is P1106, Wrong first.
func (w *twin) mend(l []*tree.Node, i int) {
	w.t.Helper()
	var leaves []api.Leaf
	for _, n := range l {
		x, _ := n.Leaf()
		leaves = append(leaves, x)
	}
	j, on, ok := 0, 0, false
	if i >= 0 && i < len(l) && !w.m.goesLeaf(w.stack, leaves[i].Kind) {
		j, on, ok = w.m.wrong(w.stack, leaves, i)
		w.met["P1106 an error"]++
	}
	if keep, at, is := w.p.Wrong(l, i); keep != j || at != on || is != ok {
		w.t.Fatalf("P1106: Wrong tells %d %d %v, not %d %d %v", keep, at, is, j, on, ok)
	}
	w.wantSame()
	if at, is := w.p.Mend(l, i); at != on || is != ok {
		w.t.Fatalf("P1106: Mend tells %d %v, not %d %v", at, is, on, ok)
	}
	if !ok {
		return
	}
	w.met["P1106 mended"]++
	w.stack = w.m.mended(w.stack, leaves, i, j, on)
	kids := w.stack[len(w.stack)-1].kids
	for k, n := range l[i:on] {
		kids[len(kids)-(on-i)+k].node = n
	}
}

// end is P1107.
func (w *twin) end(n *tree.Node) {
	w.t.Helper()
	p := plainOf(n)
	stack, ok := w.m.ready(w.stack, w.m.endAt())
	want := api.OK
	switch {
	case p.kind != api.NLeaf || p.leaf.Kind != api.KEnd:
		want = api.ErrLeaf
	case !ok:
		want = api.ErrGoes
	}
	root, e := w.p.End(n)
	w.wantError("P1107", e, want)
	if want != api.OK {
		if root != nil {
			w.t.Fatal("P4: a root beside an error")
		}
		return
	}
	w.stack = nil
	w.wantNodes(root, &plain{kind: api.NRoot, kids: append(stack, p)})
}

// wantNodes holds a tree against one in the document's words: rows and leaves, and the very nodes where they were handed in.
func (w *twin) wantNodes(n *tree.Node, p *plain) {
	w.t.Helper()
	if l, _ := n.Leaf(); n.Kind() != p.kind || n.N() != p.n || l != p.leaf || n.Count() != len(p.kids) {
		w.t.Fatalf("P1107: kind %d, %d, %v, %d kids; not %d, %d, %v, %d", n.Kind(), n.N(), l, n.Count(), p.kind, p.n, p.leaf, len(p.kids))
	}
	if p.node != nil && p.node != n {
		w.t.Fatal("P1107: another node than that which was put on")
	}
	for i, k := range p.kids {
		w.wantNodes(down(n, i), k)
	}
}

// odd are nodes that no tree of a text has.
func odd(t *testing.T, store *tree.Store, s api.Spec) []*tree.Node {
	t.Helper()
	over := func(kind, n int, kids ...*tree.Node) *tree.Node {
		x, e := store.Make(kind, n, kids...)
		if e != api.OK {
			t.Fatal(e)
		}
		return x
	}
	var out []*tree.Node
	for kind := -4; kind < len(s.Lex)+3; kind++ {
		leaf := store.Leaf(api.Leaf{Kind: kind, Len: 1})
		nothing := over(api.NInner, 0)
		out = append(out, leaf, nothing, over(api.NInner, len(s.Productions), leaf), over(api.NInner, math.MaxInt, leaf))
		out = append(out, over(api.NError, 0, leaf), over(api.NRoot, 0, leaf), over(api.NBroken, 0, leaf))
		for n := range s.Productions {
			first := over(api.NInner, n, nothing, over(api.NInner, n, nothing, leaf), over(api.NError, 0))
			out = append(out, over(api.NInner, n, leaf), over(api.NInner, n, nothing, nothing, leaf), over(api.NInner, n, nothing), first)
		}
	}
	return out
}

// someLeaf is a leaf that goes on, if there is one, or any.
func (w *twin) someLeaf(r *rand.Rand) *tree.Node {
	kind := r.Intn(len(w.m.s.Lex)+5) - 3
	for range 12 {
		if k := r.Intn(len(w.m.s.Lex)); w.p.Goes(k) && r.Intn(12) > 0 {
			kind = k
			break
		}
	}
	return w.store.Leaf(api.Leaf{Kind: kind, Skip: r.Intn(3), Len: r.Intn(3), Reach: r.Intn(5)})
}

// someTree is one of some, often one whose first leaf goes on.
func (w *twin) someTree(r *rand.Rand, subs []*tree.Node) *tree.Node {
	for range 20 {
		n := subs[r.Intn(len(subs))]
		if l := plainOf(n).leaves(); len(l) > 0 && !n.Failed() && w.p.Goes(l[0].Kind) {
			return n
		}
	}
	return subs[r.Intn(len(subs))]
}

// somePlace is a state, often one to which the machine comes ahead of a tree, and in which the tree can be put on.
func (w *twin) somePlace(r *rand.Rand, n *tree.Node) int {
	var come, fit []int
	if l := plainOf(n).leaves(); len(l) > 0 {
		through, _ := w.through(l[0].Kind)
		for _, stack := range through {
			at := w.stateOf(stack)
			come = append(come, at)
			if n.Kind() == api.NInner && n.N() < len(w.m.s.Productions) && w.a.Go(at, w.m.sym(nameOf(w.m.s.Productions[n.N()].Left))) >= 0 {
				fit = append(fit, at)
			}
		}
	}
	switch k := r.Intn(8); {
	case k < 4 && len(fit) > 0:
		return fit[r.Intn(len(fit))]
	case k < 6 && len(come) > 0:
		return come[r.Intn(len(come))]
	}
	return r.Intn(w.a.Len()+3) - 1
}

// move does one thing with both.
func (w *twin) move(r *rand.Rand, subs, strange []*tree.Node) {
	w.t.Helper()
	switch r.Intn(12) {
	case 0:
		n := strange[r.Intn(len(strange))]
		switch r.Intn(3) {
		case 0:
			w.put(n)
		case 1:
			w.take(n, w.somePlace(r, n))
		case 2:
			w.end(n)
		}
	case 1, 2, 3:
		n := w.someTree(r, subs)
		w.take(n, w.somePlace(r, n))
	case 4:
		l := nodes(w.store, w.m.text(r, 20))
		if r.Intn(5) == 0 {
			l = l[:r.Intn(len(l))]
		}
		w.mend(l, r.Intn(len(l)+3)-1)
	case 5:
		if w.m.goesLeaf(w.stack, api.KEnd) || r.Intn(4) == 0 {
			w.end(w.store.Leaf(api.Leaf{Kind: api.KEnd, Skip: r.Intn(3)}))
		}
	default:
		w.put(w.someLeaf(r))
	}
	w.wantSame()
}

// finish takes a text behind what is on the stack, so that all of it is seen.
func (w *twin) finish(r *rand.Rand) {
	w.t.Helper()
	l := nodes(w.store, w.m.text(r, 20))
	for i := 0; i < len(l); i++ {
		leaf, _ := l[i].Leaf()
		if !w.p.Goes(leaf.Kind) {
			_, on, ok := w.p.Wrong(l, i)
			w.mend(l, i)
			if !ok {
				return
			}
			i = on
			leaf, _ = l[i].Leaf()
		}
		if leaf.Kind == api.KEnd {
			w.end(l[i])
		} else {
			w.put(l[i])
		}
	}
}

// TestMachine holds two machines of one store, used in turns, against stacks on which the document's words are done.
func TestMachine(t *testing.T) {
	met := map[string]int{}
	sound(t, 1104, 2000, func(r *rand.Rand, m *model, x *table.Table) {
		store := tree.New()
		strange := odd(t, store, m.s)
		var subs []*tree.Node
		for range 6 {
			n, _ := build(t, x, store, m.text(r, 25))
			for _, below := range n.Walk() {
				if below.Kind() == api.NInner || r.Intn(9) == 0 {
					subs = append(subs, below)
				}
			}
		}
		subs = append(subs, strange[:6]...)
		twins := []*twin{newTwin(t, m, x, store, met), newTwin(t, m, x, store, met)}
		for range 60 {
			w := twins[r.Intn(2)]
			if w.move(r, subs, strange); len(w.stack) > 40 {
				w.finish(r)
			}
		}
		for _, w := range twins {
			w.finish(r)
			w.wantSame()
		}
	})
	for what, least := range map[string]int{
		"P1104 ok": 1000, "P1104 leaf": 200, "P1104 goes": 200,
		"P1105 ok": 300, "P1105 goes": 1000, "P1105 behind productions": 300, "P1105 ahead of productions": 20, "P1105 nothing behind": 100, "P1105 elsewhere": 100,
		"P1106 an error": 500, "P1106 mended": 200, "P1107 ok": 300, "P1107 leaf": 100, "P1107 goes": 100,
	} {
		if met[what] < least {
			t.Errorf("too few: %s %d of %v", what, met[what], met)
		}
	}
}

// TestStandsAgain is what Take promises of trees: of a right text each tree with leaves, taken behind the leaves ahead of it in the state in which it stood, comes to the same tree.
func TestStandsAgain(t *testing.T) {
	taken := 0
	sound(t, 1105, 2500, func(r *rand.Rand, m *model, x *table.Table) {
		store := tree.New()
		for range 4 {
			leaves := m.text(r, 20)
			root, mishaps := build(t, x, store, leaves)
			if len(mishaps) > 0 {
				continue
			}
			var at func(n *tree.Node, ahead []*plain, first int)
			at = func(n *tree.Node, ahead []*plain, first int) {
				if n.Kind() == api.NInner && n.Leafs() > 0 {
					wantAgain(t, m, x, store, root, n, ahead, first)
					taken++
				}
				for i := range n.Count() {
					k := down(n, i)
					at(k, ahead, first)
					ahead = append(slices.Clone(ahead), plainOf(k))
					first += k.Leafs()
				}
			}
			at(root, nil, 0)
		}
	})
	if taken < 2500 {
		t.Errorf("too few trees: %d", taken)
	}
}

// wantAgain takes a tree behind the leaves ahead of it, which are so many, and goes on with those behind it.
func wantAgain(t *testing.T, m *model, x *table.Table, store *tree.Store, root, sub *tree.Node, ahead []*plain, first int) {
	t.Helper()
	w := newTwin(t, m, x, store, map[string]int{})
	var l []*tree.Node
	for _, leaf := range root.Leaves() {
		l = append(l, leaf)
	}
	for _, leaf := range l[:first] {
		if e := w.p.Put(leaf); e != api.OK {
			t.Fatalf("P1104: %v", e)
		}
	}
	if e := w.p.Take(sub, w.stateOf(ahead)); e != api.OK {
		t.Fatalf("P1105: %v", e)
	}
	again, ok := drive(t, w.p, l, first+sub.Leafs())
	if !ok || !slices.Equal(bare(again), bare(root)) {
		t.Fatalf("P1105: another tree: %v", ok)
	}
}
