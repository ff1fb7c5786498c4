package paint_test

import (
	"fmt"
	"math/rand"
	"slices"
	"testing"

	"graft/api"
	"graft/engine"
	"graft/tree"
)

// kindOf is what kind of text a tree has.
func kindOf(n *tree.Node) string {
	switch {
	case n.Kind() == api.NBroken:
		return "broken"
	case n.Failed():
		return "wrong"
	}
	return "right"
}

// eachText goes through many versions of documents of all languages, each with a guesser of queries about it.
func eachText(t *testing.T, seed int64, documents int, do func(e *engine.Engine, v version, g *guesser)) {
	t.Helper()
	r := rand.New(rand.NewSource(seed))
	for _, x := range languages() {
		e := compiled(t, x.spec)
		for range documents {
			d := grown(t, r, e, x, 12)
			for n := range d.Versions() {
				v := asked(t, d, n)
				do(e, v, &guesser{r: r, s: e.Spec(), text: string(v.text)})
			}
		}
	}
}

// TestByWords is P1602 to P1604 and P1607 for many texts and painters.
func TestByWords(t *testing.T) {
	met := map[string]int{}
	eachText(t, 1602, 16, func(e *engine.Engine, v version, g *guesser) {
		met[kindOf(v.root)]++
		for range 4 {
			l := g.lists()
			wantByWords(t, e.Spec(), l, v)
			got := told(t, painter(t, e.Spec(), l), v)
			met["paints"] += len(got.paints)
			met["folds"] += len(got.folds)
			for _, e := range got.entries {
				met["entries"]++
				met[fmt.Sprint("depth ", min(e.Depth, 2))]++
				met[fmt.Sprint("a name: ", e.Name != "")]++
				met[fmt.Sprint("bytes: ", e.From < e.To)]++
			}
		}
	})
	wantMet(t, met, 100, "right", "wrong", "broken", "paints", "folds", "entries", "depth 2", "a name: true", "bytes: false")
}

// wantMet holds that each of these was tried so many times.
func wantMet(t *testing.T, met map[string]int, times int, all ...string) {
	t.Helper()
	for _, what := range all {
		if met[what] < times {
			t.Errorf("too few tries: %s: %d", what, met[what])
		}
	}
}

// TestLeavesOnly is P1602 and P1604 where there are leaves and nothing else: the empty text, trivia alone, and texts with trivia at both ends.
func TestLeavesOnly(t *testing.T) {
	r := rand.New(rand.NewSource(1604))
	for _, c := range []struct {
		spec  string
		texts []string
	}{
		{ten, []string{"", " ", "   ", "  ;", "; ", " 1", "1 ", "  #  ", " 1 ; "}},
		{calls, []string{"", "\n", "# a\n ", "#a", "  ; \n#b\n", "\n\"\n\"\n;\n"}},
		{empty, []string{"", "\n", "\n;\n", "oc", "o\nc\n"}},
		{strict, []string{"", " ", " b", "a b\n ", "b\n"}},
	} {
		e := compiled(t, c.spec)
		for _, text := range c.texts {
			v := opened(t, e, text)
			all := lists{styles("_ @it", "n"), []string{"_ @it"}, []string{"_ @it"}}
			wantByWords(t, e.Spec(), all, v)
			g := &guesser{r: r, s: e.Spec(), text: text}
			for range 30 {
				wantByWords(t, e.Spec(), g.lists(), v)
			}
		}
	}
}

// TestWhatFollows is P1606, P1608 and P1609 for many texts.
func TestWhatFollows(t *testing.T) {
	eachText(t, 1608, 8, func(e *engine.Engine, v version, g *guesser) {
		l := g.lists()
		wantAlone(t, e.Spec(), l, v, opened(t, e, string(v.text)))
		wantNothingChanged(t, e.Spec(), l.styles, v)
		wantMoreStyles(t, e.Spec(), l.styles, v, g.r)
		wantOneName(t, e.Spec(), l.styles, v, g.r)
		wantAll(t, e.Spec(), v)
	})
}

// wantAlone is P1606: of an equal tree of other nodes the same is told, by this painter and by another one of the same lists.
func wantAlone(t *testing.T, s api.Spec, l lists, v, again version) {
	t.Helper()
	p := painter(t, s, l)
	first := told(t, p, v)
	if !same(told(t, p, again), first) || !same(told(t, painter(t, s, l), v), first) || !same(told(t, p, v), first) {
		t.Fatalf("P1606: %+v of %q", l, v.text)
	}
}

// wantNothingChanged is P1608: a style whose query has no it changes nothing, wherever it stands.
func wantNothingChanged(t *testing.T, s api.Spec, l []api.Style, v version) {
	t.Helper()
	want, _ := painter(t, s, lists{styles: l}).Paints(v.root, v.text)
	for _, query := range []string{`_ = "no such text" @it`, "(_ . $ @it . $)", `$ _ (_ $ @it $)`} {
		for at := range len(l) + 1 {
			more := slices.Insert(slices.Clone(l), at, api.Style{Query: query, Name: "z"})
			got, e := painter(t, s, lists{styles: more}).Paints(v.root, v.text)
			if e != api.OK || !slices.Equal(got, want) {
				t.Fatalf("P1608: %v of %q: %v, want %v", more, v.text, got, want)
			}
		}
	}
}

// wantMoreStyles is P1608: a byte that has a style by some of the styles has one by all of them.
func wantMoreStyles(t *testing.T, s api.Spec, l []api.Style, v version, r *rand.Rand) {
	t.Helper()
	some := slices.DeleteFunc(slices.Clone(l), func(api.Style) bool { return r.Intn(2) == 0 })
	few, _ := painter(t, s, lists{styles: some}).Paints(v.root, v.text)
	all, _ := painter(t, s, lists{styles: l}).Paints(v.root, v.text)
	for _, p := range few {
		for at := p.From; at < p.To; at++ {
			if !slices.ContainsFunc(all, func(q api.Paint) bool { return q.From <= at && at < q.To }) {
				t.Fatalf("P1608: %v and %v of %q: %v and %v", some, l, v.text, few, all)
			}
		}
	}
}

// wantOneName is P1608: of styles of one Name the order changes nothing.
func wantOneName(t *testing.T, s api.Spec, l []api.Style, v version, r *rand.Rand) {
	t.Helper()
	l = slices.Clone(l)
	for i := range l {
		l[i].Name = "one"
	}
	want, _ := painter(t, s, lists{styles: l}).Paints(v.root, v.text)
	for range 3 {
		r.Shuffle(len(l), func(i, j int) { l[i], l[j] = l[j], l[i] })
		if got, e := painter(t, s, lists{styles: l}).Paints(v.root, v.text); e != api.OK || !slices.Equal(got, want) {
			t.Fatalf("P1608: %v of %q: %v, want %v", l, v.text, got, want)
		}
	}
}

// wantAll is P1609: what `_ @it` paints and folds.
func wantAll(t *testing.T, s api.Spec, v version) {
	t.Helper()
	p := painter(t, s, lists{styles: styles("_ @it", "N"), folds: []string{"_ @it"}})
	from := 0
	for _, leaf := range v.root.Leaves() {
		l, _ := leaf.Leaf()
		from = l.Skip
		break
	}
	if from < len(v.text) {
		wantPaints(t, "P1609", p, v, row(from, len(v.text), "N"))
	} else {
		wantPaints(t, "P1609", p, v)
	}
	if folds, e := p.Folds(v.root, v.text); e != api.OK || (len(folds) > 0) != slices.Contains(v.text[from:], '\n') {
		t.Errorf("P1609: %v, %v of %q", folds, e, v.text)
	}
}

// TestWildTrees is P1: of trees that no text has nothing is promised but that each call ends.
func TestWildTrees(t *testing.T) {
	r := rand.New(rand.NewSource(1))
	s := readSpec(t, ten)
	for range 2000 {
		n := wild(r)
		text := make([]byte, n.Width())
		for i := range text {
			text[i] = "1+;\n "[r.Intn(5)]
		}
		g := &guesser{r: r, s: s, text: string(text[:min(len(text), 40)])}
		p := painter(t, s, g.lists())
		p.Paints(n, text)
		p.Folds(n, text)
		p.Outline(n, text)
		p.Renew([]api.Paint{row(9, -3, "x"), row(1<<40, 0, "")}, n, n, text, slices.Clone(text))
		kid, _ := n.Kid(0)
		if kid != nil {
			p.Renew(nil, n, kid, text, text[:kid.Width()])
			p.Renew(nil, kid, n, text[:kid.Width()], text)
		}
	}
}

// wild is a tree of any nodes, some of them at several places, with numbers that may be none.
func wild(r *rand.Rand) *tree.Node {
	s := tree.New()
	var made []*tree.Node
	for range 2 + r.Intn(12) {
		if len(made) == 0 || r.Intn(3) == 0 {
			made = append(made, s.Leaf(api.Leaf{Kind: r.Intn(8) - 3, Skip: r.Intn(4) - 1, Len: r.Intn(4) - 1}))
			continue
		}
		var kids []*tree.Node
		for range r.Intn(4) {
			kids = append(kids, made[max(0, len(made)-1-r.Intn(5))])
		}
		kind, number := api.NInner+r.Intn(4), 0
		if kind == api.NInner {
			number = r.Intn(9)
		}
		n, _ := s.Make(kind, number, kids...)
		made = append(made, n)
	}
	n := made[len(made)-1]
	for n.Size() > 60 {
		n, _ = n.Kid(r.Intn(n.Count()))
	}
	return n
}
