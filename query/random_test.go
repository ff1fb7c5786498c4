package query_test

import (
	"fmt"
	"math/rand"
	"slices"
	"testing"

	"graft/api"
	"graft/query"
	"graft/tree"
)

// enough is how many findings of a query are held against the model.
const enough = 3000

// wantModel holds of a query all that it finds in a tree against a search that goes by P1404's words alone.
func wantModel(t *testing.T, m *asker, q *query.Query, n *tree.Node, root *place) []api.Match {
	t.Helper()
	want := m.all(root, enough)
	got := findings(t, q, n, m.text, enough)
	if !slices.EqualFunc(got, want, same) {
		t.Fatalf("P1404: %s in %q: %s; not %s; of %+v", q.Print(), m.text, told(got), told(want), n.Rows())
	}
	first, ok, err := q.First(n, []byte(m.text))
	if err != api.OK || ok != (len(want) > 0) || ok && !same(first, want[0]) || !ok && !same(first, api.Match{}) {
		t.Fatalf("P1406: %s in %q: %v %v %v", q.Print(), m.text, first, ok, err)
	}
	if k, err := q.Count(n, []byte(m.text)); len(want) < enough && (k != len(want) || err != api.OK) {
		t.Fatalf("P1406: %s in %q: %d %v, not %d", q.Print(), m.text, k, err, len(want))
	}
	return want
}

// seen counts what the queries and trees of a test had.
type seen map[string]int

func (s seen) note(l []*ask, n *tree.Node, found []api.Match) {
	s[fmt.Sprint("findings ", min(len(found), 10))]++
	s[fmt.Sprint("a tree of kind ", n.Kind())]++
	if n.Failed() {
		s["a failed tree"]++
	}
	where := make([]int, len(l))
	for _, m := range found {
		where[m.Pattern]++
	}
	for i, a := range l {
		s.notePattern(a, where[i] > 0)
	}
}

// notePattern counts what a pattern has, apart for those that are found.
func (s seen) notePattern(a *ask, found bool) {
	tag := map[bool]string{true: ", found", false: ", not found"}[found]
	if a.open && a.last {
		s[fmt.Sprintf("a last dot, parts: %v", len(a.parts) > 0)+tag]++
	}
	for _, c := range a.checks {
		s[fmt.Sprintf("check %c, empty: %v", c.sign, c.text == "")+tag]++
	}
	if len(a.checks) > 1 {
		s["several checks"+tag]++
	}
	for i, p := range a.parts {
		s[fmt.Sprintf("near %v, deep %v, first %v", p.near, p.deep, i == 0)+tag]++
		s.notePattern(p.ask, found)
	}
}

func (s seen) want(t *testing.T, least int) {
	t.Helper()
	for _, tag := range []string{", found", ", not found"} {
		for _, parts := range []bool{false, true} {
			s.wantOne(t, fmt.Sprintf("a last dot, parts: %v", parts)+tag, least)
		}
		for _, sign := range "=^-" {
			s.wantOne(t, fmt.Sprintf("check %c, empty: false", sign)+tag, least)
			s.wantOne(t, fmt.Sprintf("check %c, empty: true", sign)+tag, least/10)
		}
		s.wantOne(t, "several checks"+tag, least)
		for i := range 8 {
			s.wantOne(t, fmt.Sprintf("near %v, deep %v, first %v", i&1 > 0, i&2 > 0, i&4 > 0)+tag, least)
		}
	}
	for i := range 11 {
		s.wantOne(t, fmt.Sprint("findings ", i), least/4)
	}
}

func (s seen) wantOne(t *testing.T, what string, least int) {
	t.Helper()
	if s[what] < least {
		t.Errorf("too few: %s: %d", what, s[what])
	}
}

// TestModelTexts is P1404 to P1407 against the model, for texts of several languages, right and wrong ones.
func TestModelTexts(t *testing.T) {
	t.Parallel()
	r := rand.New(rand.NewSource(1404))
	met := seen{}
	for _, text := range languages() {
		e := compiled(t, text)
		s := e.Spec()
		w := newWriter(r, s)
		for range 200 {
			written := w.text(14)
			n := planted(t, e, written)
			at := 0
			if r.Intn(6) == 0 {
				n, at = anyBelow(r, n)
			}
			m := &asker{s: s, text: written[at : at+n.Width()]}
			askAll(t, r, m, n, met, 20)
		}
	}
	met.want(t, 400)
	for _, kind := range []int{api.NLeaf, api.NInner, api.NRoot, api.NBroken} {
		met.wantOne(t, fmt.Sprint("a tree of kind ", kind), 100)
	}
	met.wantOne(t, "a failed tree", 1000)
}

// anyBelow is a node of a tree, and where it begins.
func anyBelow(r *rand.Rand, n *tree.Node) (*tree.Node, int) {
	which := r.Intn(n.Size())
	for at, below := range n.Walk() {
		if which--; which < 0 {
			return below, at
		}
	}
	return n, 0
}

// TestModelTrees is the same of trees that no text has: nodes of any kind over any, at several places, with numbers that are none.
func TestModelTrees(t *testing.T) {
	t.Parallel()
	r := rand.New(rand.NewSource(1405))
	met := seen{}
	for i := range 2500 {
		s := readSpec(t, languages()[i%len(languages())])
		for p := range s.Productions {
			if r.Intn(8) == 0 {
				s.Productions[p].Left = []int{-1, 99, 1 << 40, 0}[r.Intn(4)]
			}
		}
		n := wild(r, 30)
		text := make([]byte, n.Width())
		for k := range text {
			text[k] = "ab;\x00\xff\"\\ "[r.Intn(8)]
		}
		askAll(t, r, &asker{s: s, text: string(text)}, n, met, 15)
	}
	met.want(t, 400)
	for kind := api.NLeaf; kind <= api.NBroken; kind++ {
		met.wantOne(t, fmt.Sprint("a tree of kind ", kind), 100)
	}
}

// askAll asks a tree many queries.
func askAll(t *testing.T, r *rand.Rand, m *asker, n *tree.Node, met seen, count int) {
	t.Helper()
	root := places(n, nil, 0)
	g := &guesser{r: r, s: m.s, text: m.text, root: root}
	for range count {
		m.l = g.query()
		text := joined(r, allTokens(r, m.l))
		if len(text) > api.MaxQuery {
			continue
		}
		q := parsed(t, m.s, text)
		found := wantModel(t, m, q, n, root)
		met.note(m.l, n, found)
		wantAgain(t, m, q, n, found)
	}
}

// wantAgain is P1407: the query that is printed, and its first pattern alone, find the same.
func wantAgain(t *testing.T, m *asker, q *query.Query, n *tree.Node, found []api.Match) {
	t.Helper()
	if print := q.Print(); len(print) <= api.MaxQuery {
		if again := findings(t, parsed(t, m.s, print), n, m.text, enough); !slices.EqualFunc(again, found, same) {
			t.Fatalf("P1407: %s in %q", print, m.text)
		}
	}
	if len(found) == enough || len(m.l) == 1 {
		return
	}
	alone := findings(t, parsed(t, m.s, m.l[0].print()), n, m.text, enough)
	with := slices.DeleteFunc(slices.Clone(found), func(x api.Match) bool { return x.Pattern != 0 })
	if !slices.EqualFunc(alone, with, same) {
		t.Fatalf("P1407: %s in %q: alone %s, with others %s", m.l[0].print(), m.text, told(alone), told(with))
	}
}

// TestSmall is P1404 for all rows of up to five children of two kinds, and all brackets of up to three simple parts.
func TestSmall(t *testing.T) {
	t.Parallel()
	s := letters()
	var parts []piece
	for i := range 8 {
		parts = append(parts, piece{near: i&1 > 0, deep: i&2 > 0, ask: &ask{name: "ab"[i>>2 : i>>2+1]}})
	}
	var asks []*ask
	for size := range 4 {
		for i := range pow(len(parts), size) {
			a := &ask{open: true, head: "_", last: i%2 == 0}
			for k := range size {
				p := parts[i/pow(len(parts), k)%len(parts)]
				p.ask = &ask{name: p.ask.name, word: "xyz"[k : k+1]}
				a.parts = append(a.parts, p)
			}
			asks = append(asks, a, &ask{open: true, head: "_", last: !a.last, parts: a.parts})
		}
	}
	queries := make([]*query.Query, len(asks))
	for i, a := range asks {
		queries[i] = parsed(t, s, a.print())
	}
	for size := range 5 {
		for i := range pow(3, size) {
			st := tree.New()
			var kids []*tree.Node
			for k := range size {
				kids = append(kids, smallKid(st, i/pow(3, k)%3))
			}
			n, _ := st.Make(api.NError, 0, kids...)
			root := places(n, nil, 0)
			for j, a := range asks {
				wantModel(t, &asker{s: s, l: []*ask{a}}, queries[j], n, root)
			}
		}
	}
}

// smallKid is the leaf a, the leaf b, or a node over both.
func smallKid(s *tree.Store, which int) *tree.Node {
	if which < 2 {
		return s.Leaf(api.Leaf{Kind: which})
	}
	n, _ := s.Make(api.NInner, 0, s.Leaf(api.Leaf{Kind: 0}), s.Leaf(api.Leaf{Kind: 1}))
	return n
}

func pow(n, times int) int {
	out := 1
	for range times {
		out *= n
	}
	return out
}

// TestSizes is P1404 for trees of many sizes, with one node that fits at each place, and with none.
func TestSizes(t *testing.T) {
	t.Parallel()
	q := parsed(t, letters(), "(_ ~ b @x) @y (! ~ b)")
	for _, size := range []int{1, 2, 62, 63, 64, 65, 66, 126, 127, 128, 129, 190, 191, 192, 193, 4094, 4095, 4096, 4097, 8190, 8191, 8192, 8193, 64*64*64 - 2, 64*64*64 - 1, 64 * 64 * 64} {
		for _, at := range []int{-1, 0, 1, 61, 62, 63, 64, 65, 126, 127, 128, 4095, 4096, size - 2, size - 1} {
			if at >= size || at < -1 {
				continue
			}
			st := tree.New()
			kids := slices.Repeat([]*tree.Node{st.Leaf(api.Leaf{Kind: 0})}, size)
			want := ""
			if at >= 0 {
				kids[at] = st.Leaf(api.Leaf{Kind: 1})
				want = fmt.Sprintf("0 y [] 0-0 x [0 %d] 0-0, 0 y [0] 0-0 x [0 %d] 0-0, 1", at, at)
			}
			low, _ := st.Make(api.NError, 0, kids...)
			n, _ := st.Make(api.NInner, 0, low)
			if got := told(findings(t, q, n, "", most)); got != want {
				t.Fatalf("P1404: %d leaves, b at %d: %s, not %s", size, at, got, want)
			}
			if at >= 0 {
				want = fmt.Sprintf("0 y [] 0-0 x [%d] 0-0, 1", at)
			}
			if got := told(findings(t, q, low, "", most)); got != want {
				t.Fatalf("P1404: %d leaves, b at %d: %s, not %s", size, at, got, want)
			}
		}
	}
}
