package layout_test

import (
	"math/rand"
	"slices"
	"strings"
	"testing"

	"graft/api"
	"graft/engine"
	"graft/expr"
	"graft/layout"
	"graft/tree"
)

// randomRules are rules that are right, some of them such as people write, some of any kind.
func randomRules(r *rand.Rand, s api.Spec) api.Rules {
	out := api.Rules{Blank: " ", Line: "\n", Indent: "  "}
	if r.Intn(3) == 0 {
		out.Blank = pick(r, "", " ", "\t", "\n", "  ", "\r", " \n")
		out.Line = pick(r, "", "\n", "\r\n", " ", "\n\n", "\t")
		out.Indent = pick(r, "", " ", "\t", "    ", "\n", "\r")
	}
	kinds := pick(r, []int{1}, []int{1, 1, 1, 2}, []int{1, 1, 2, 3, 4, 5}, []int{1, 1, 1, 1, 4, 5}, []int{2, 3}, []int{1, 5, 5, 4}, []int{1, 1, 4})
	for _, p := range s.Productions {
		var l []int
		for range len(p.Right) + 1 {
			l = append(l, pick(r, kinds...))
		}
		out.Gaps = append(out.Gaps, l)
	}
	return out
}

// randomText is a text with some edits done to it.
func randomText(r *rand.Rand, text, with string) string {
	for range r.Intn(8) {
		at := r.Intn(len(text) + 1)
		to := min(at+r.Intn(3)*r.Intn(3), len(text))
		in := ""
		for range r.Intn(4) {
			in += string(with[r.Intn(len(with))])
		}
		text = text[:at] + in + text[to:]
	}
	return text
}

// eachText goes through many texts of all languages.
func eachText(t *testing.T, seed int64, texts int, do func(r *rand.Rand, e *engine.Engine, v version)) {
	t.Helper()
	r := rand.New(rand.NewSource(seed))
	for _, x := range languages() {
		e := compiled(t, x.spec)
		for range texts {
			text := pick(r, x.text, x.text, x.text[:r.Intn(len(x.text)+1)], "")
			do(r, e, opened(t, e, randomText(r, text, x.bytes)))
		}
	}
}

// TestByWords is P1702 to P1704 for many texts and rules.
func TestByWords(t *testing.T) {
	t.Parallel()
	met := map[string]int{}
	eachText(t, 1702, 400, func(r *rand.Rand, e *engine.Engine, v version) {
		count(met, v.root)
		for range 4 {
			s := e.Spec()
			m := newModel(t, s, randomRules(r, s))
			met[wantByWords(t, m, laid(t, s, m.r), v).Error()]++
			add(met, m.met)
		}
	})
	wantMet(t, met, 100, "right", "wrong", "broken", "ok", "glue", "first", "last", "between", "line", "blank", "glued", "nothing", "an error node with leaves", "an error node without leaves", "an inner node without leaves")
	wantMet(t, met, 30, "does not hold", "does not stay")
}

func add(to, more map[string]int) {
	for k, n := range more {
		to[k] += n
	}
}

// count tells what kinds of things stand in a tree.
func count(met map[string]int, n *tree.Node) {
	switch {
	case n.Kind() == api.NBroken:
		met["broken"]++
	case n.Failed():
		met["wrong"]++
	default:
		met["right"]++
	}
	for _, below := range n.Walk() {
		switch {
		case below.Kind() == api.NError && ownLeaves(below) > 0:
			met["an error node with leaves"]++
			if ownLeaves(below) < below.Leafs() {
				met["an error node with the end leaf"]++
			}
			if below.Size() > below.Leafs()+1 {
				met["an error node with inner nodes"]++
			}
		case below.Kind() == api.NError && below.Leafs() > 0:
			met["an error node with the end leaf alone"]++
		case below.Kind() == api.NError:
			met["an error node without leaves"]++
		case below.Kind() == api.NInner && below.Leafs() == 0:
			met["an inner node without leaves"]++
		}
	}
}

// grower makes trees by hand over leaves: of any nodes, as deep as there is room.
type grower struct {
	r     *rand.Rand
	s     api.Spec
	store *tree.Store
	room  int
}

// over is a node over leaves.
func (g *grower) over(t *testing.T, leaves []*tree.Node) *tree.Node {
	t.Helper()
	g.room--
	if len(leaves) == 1 && g.r.Intn(3) > 0 {
		return leaves[0]
	}
	var kids []*tree.Node
	for rest := leaves; ; {
		n := g.r.Intn(len(rest) + 1)
		if g.room <= 0 {
			kids = append(kids, rest...)
			break
		}
		kids = append(kids, g.over(t, rest[:n]))
		if rest = rest[n:]; len(rest) == 0 && g.r.Intn(2) == 0 {
			break
		}
	}
	if len(leaves) == 0 && g.r.Intn(2) == 0 {
		kids = nil
	}
	kind := pick(g.r, api.NInner, api.NInner, api.NInner, api.NInner, api.NInner, api.NError, api.NRoot, api.NBroken)
	n := 0
	if kind == api.NInner {
		n = g.production(len(kids))
	}
	return made(t, g.store, kind, n, kids...)
}

// production is the place of one that has so many symbols, or of any, or of none.
func (g *grower) production(symbols int) int {
	var fit []int
	for i, p := range g.s.Productions {
		if len(p.Right) == symbols {
			fit = append(fit, i)
		}
	}
	if len(fit) > 0 && g.r.Intn(4) > 0 {
		return pick(g.r, fit...)
	}
	return pick(g.r, g.r.Intn(len(g.s.Productions)+2), len(g.s.Productions), 1<<40)
}

// byHand is a tree of a text that no grammar made.
func byHand(t *testing.T, r *rand.Rand, s api.Spec, text string) version {
	t.Helper()
	g := &grower{r, s, tree.New(), 30}
	rest := leafNodes(t, g.store, s.Lex, text)
	var kids []*tree.Node
	for len(rest) > 0 {
		n := r.Intn(len(rest) + 1)
		kids, rest = append(kids, g.over(t, rest[:n])), rest[n:]
	}
	for range r.Intn(3) {
		kids = append(kids, g.over(t, nil))
	}
	return version{made(t, g.store, api.NRoot, 0, kids...), text}
}

// TestByHand is P1702 to P1704 for trees that were made by hand over the leaves of texts.
func TestByHand(t *testing.T) {
	t.Parallel()
	met := map[string]int{}
	eachText(t, 1703, 400, func(r *rand.Rand, e *engine.Engine, v version) {
		s := e.Spec()
		v = byHand(t, r, s, v.text)
		count(met, v.root)
		for range 3 {
			m := newModel(t, s, randomRules(r, s))
			met[wantByWords(t, m, laid(t, s, m.r), v).Error()]++
			add(met, m.met)
		}
	})
	wantMet(t, met, 100, "ok", "glue", "first", "last", "between", "line", "blank", "glued", "nothing", "an error node with leaves", "an error node without leaves", "an inner node without leaves", "an error node with the end leaf", "an error node with the end leaf alone", "an error node with inner nodes")
	wantMet(t, met, 30, "does not hold", "does not stay")
}

// oddPatterns are such as make tokens run together, comments out of blanks, and blanks into tokens.
func oddPatterns() []string {
	return []string{"x", "x+", "xx", "x ", " ", " +", `\n`, `[ \n]+`, `#[^\n]*`, "#", "#x", "##", `\n#x*`, " #x?", `x\r`, `\r`, `[\t\r]`, `#x*\n`, `[ \n]*#[ x]*\n?`, "x#x", `\tx`, "[x#]", `[x\n]{2}`, `#[ \n]#`}
}

// oddSpec is one of such patterns; its productions are of all lengths, and of nothing that counts.
func oddSpec(t *testing.T, r *rand.Rand) (s api.Spec) {
	t.Helper()
	l := oddPatterns()
	for range 1 + r.Intn(6) {
		e, f := expr.Parse(pick(r, l...))
		if f != (api.Fault{}) {
			t.Fatal(f)
		}
		s.Lex = append(s.Lex, api.LexRule{Trivia: r.Intn(2) == 0, Expr: e})
	}
	for range 1 + r.Intn(6) {
		s.Productions = append(s.Productions, api.Production{Left: r.Intn(9) - 4, Right: make([]api.Sym, r.Intn(4))})
	}
	return s
}

// TestOddLanguages is P1702 to P1704 for rules of tokens that no person would write.
func TestOddLanguages(t *testing.T) {
	t.Parallel()
	met := map[string]int{}
	r := rand.New(rand.NewSource(1701))
	for range 12000 {
		s := oddSpec(t, r)
		m := newModel(t, s, randomRules(r, s))
		l := laid(t, s, m.r)
		for range 4 {
			text := ""
			for range r.Intn(14) {
				text += pick(r, "x", "x", "#", " ", "\n", "\r", "\t")
			}
			met[wantByWords(t, m, l, byHand(t, r, s, text)).Error()]++
		}
		add(met, m.met)
	}
	wantMet(t, met, 100, "ok", "glue", "first", "last", "between", "line", "blank", "glued", "nothing", "does not hold")
	wantMet(t, met, 30, "does not stay")
}

// TestWhatFollows is P1706 for many texts.
func TestWhatFollows(t *testing.T) {
	t.Parallel()
	met := map[string]int{}
	eachText(t, 1706, 150, func(r *rand.Rand, e *engine.Engine, v version) {
		s := e.Spec()
		for range 4 {
			rules := randomRules(r, s)
			l := laid(t, s, rules)
			text, err := l.Print(v.root, []byte(v.text))
			met[err.Error()]++
			if err == api.OK {
				wantFollowing(t, l, v, opened(t, e, text))
			}
			if t.Failed() {
				t.Fatalf("of %q by %+v", v.text, rules)
			}
		}
	})
	wantMet(t, met, 1000, "ok")
	wantMet(t, met, 100, "glue", "broken")
}

// wantFollowing is P1706 of a version and of that of its printed text.
func wantFollowing(t *testing.T, l *layout.Layout, was, now version) {
	t.Helper()
	if !layout.Same(was.root, now.root, []byte(was.text), []byte(now.text)) || !layout.Same(now.root, was.root, []byte(now.text), []byte(was.text)) {
		t.Errorf("P1706: %q has not the same tree", now.text)
	}
	if again, e := l.Print(now.root, []byte(now.text)); again != now.text || e != api.OK {
		t.Errorf("P1706: %q is printed as %q, %v", now.text, again, e)
	}
	if edits, e := l.Edits(now.root, []byte(now.text)); len(edits) > 0 || e != api.OK {
		t.Errorf("P1706: %q: %v, %v", now.text, edits, e)
	}
	edits, _ := l.Edits(was.root, []byte(was.text))
	if done(was.text, edits) != now.text {
		t.Errorf("P1706: %v do not make %q", edits, now.text)
	}
	wantByTrivia(t, was, edits)
}

// respaced is a text with the same leaves and comments, but with other blanks ahead of its pieces, where that can be.
func respaced(r *rand.Rand, m *model, v version) string {
	l := m.sprigs(v.text)
	text := ""
	for _, s := range m.spans(v.root, l) {
		for _, token := range l[s.from].trivia {
			if strings.Trim(token, "\t\n\r ") != "" {
				text += token
			} else {
				text += pick(r, token, token+token, " ", "\n", "\n \n")
			}
		}
		if len(l[s.from].trivia) == 0 {
			text += pick(r, "", "", " ", "\n")
		}
		text += bytesOf(l[s.from:s.to])
	}
	return text
}

// sameComments says whether the leaves of two texts have the same comments.
func sameComments(a, b []sprig) bool {
	return slices.EqualFunc(a, b, func(x, y sprig) bool { return slices.Equal(x.comments(), y.comments()) })
}

// TestBlanksDoNotCount is P1707: of trivia outside of error nodes only comments count.
func TestBlanksDoNotCount(t *testing.T) {
	t.Parallel()
	met := map[string]int{}
	eachText(t, 1707, 150, func(r *rand.Rand, e *engine.Engine, v version) {
		if v.root.Kind() == api.NBroken {
			return
		}
		s := e.Spec()
		m := newModel(t, s, randomRules(r, s))
		l := laid(t, s, m.r)
		want, err := l.Print(v.root, []byte(v.text))
		for range 6 {
			other := opened(t, e, respaced(r, m, v))
			was, now := m.sprigs(v.text), m.sprigs(other.text)
			if other.root.Kind() == api.NBroken || !holds(was, now, m.parts(v.root)) || !sameComments(was, now) {
				continue
			}
			if !layout.Same(v.root, other.root, []byte(v.text), []byte(other.text)) {
				t.Fatalf("P1705: %q and %q", v.text, other.text)
			}
			if got, e := l.Print(other.root, []byte(other.text)); got != want || e != err {
				t.Fatalf("P1707: %q: %q, %v; %q: %q, %v", v.text, want, err, other.text, got, e)
			}
			if v.text != other.text {
				met[err.Error()]++
			}
		}
	})
	wantMet(t, met, 1000, "ok")
	wantMet(t, met, 50, "glue")
}

// TestIdsDoNotCount is P1707: equal trees of other nodes, and with nodes that hang at several places, are laid out alike.
func TestIdsDoNotCount(t *testing.T) {
	eachText(t, 1708, 60, func(r *rand.Rand, e *engine.Engine, v version) {
		if v.root.Kind() == api.NBroken {
			return
		}
		s := e.Spec()
		l := laid(t, s, randomRules(r, s))
		store := tree.New()
		store.Leaf(api.Leaf{})
		again := copied(t, store, map[string]*tree.Node{}, v.root)
		want, err := l.Print(v.root, []byte(v.text))
		if got, e := l.Print(again, []byte(v.text)); got != want || e != err {
			t.Fatalf("P1707: %q: %q, %v, want %q, %v", v.text, got, e, want, err)
		}
		if !layout.Same(v.root, again, []byte(v.text), []byte(v.text)) {
			t.Fatalf("P1705: %q", v.text)
		}
	})
}

// copied is an equal tree of another store, in which equal trees are one node.
func copied(t *testing.T, s *tree.Store, known map[string]*tree.Node, n *tree.Node) *tree.Node {
	t.Helper()
	rows := n.Rows()
	for i := range rows {
		rows[i].Id = 0
	}
	k := short(rows)
	if len(k) == 700 {
		k = ""
	}
	if is, ok := known[k]; ok && k != "" {
		return is
	}
	out := (*tree.Node)(nil)
	if l, ok := n.Leaf(); ok {
		l.Reach = 0
		out = s.Leaf(l)
	} else {
		var kids []*tree.Node
		for i := range n.Count() {
			kid, _ := n.Kid(i)
			kids = append(kids, copied(t, s, known, kid))
		}
		out = made(t, s, n.Kind(), n.N(), kids...)
	}
	known[k] = out
	return out
}

// TestWildTrees is P1 and P1703 for trees that no text has: each call ends, with the error that is told.
func TestWildTrees(t *testing.T) {
	t.Parallel()
	met := map[string]int{}
	r := rand.New(rand.NewSource(1))
	s := readSpec(t, noted)
	m := newModel(t, s, usual(s))
	l := laid(t, s, m.r)
	var last version
	for range 40000 {
		n := wild(t, r)
		text := make([]byte, n.Width())
		for i := range text {
			text[i] = pick(r, []byte("11+;\n #@")...)
		}
		v := version{n, string(text)}
		met[wantByWords(t, m, l, v).Error()]++
		wantByWords(t, m, l, version{n, v.text + " "})
		if last.root != nil {
			wantSame(t, "wild", v, last, sameByWords(v, last))
		}
		wantSame(t, "wild", v, v, true)
		last = v
	}
	wantMet(t, met, 20, "ok", "arg", "broken", "leaves")
}

// wild is a tree of any nodes, some of them at several places, with numbers that may be none.
func wild(t *testing.T, r *rand.Rand) *tree.Node {
	t.Helper()
	s := tree.New()
	var all []*tree.Node
	for range 2 + r.Intn(8) {
		if len(all) == 0 || r.Intn(3) == 0 {
			all = append(all, s.Leaf(api.Leaf{Kind: pick(r, 0, 0, 1, 2, 3, api.KBad, api.KEnd, api.KEnd), Skip: pick(r, 0, 0, 0, 1, 2, -1, 1<<40), Len: pick(r, 0, 0, 1, 1, 2, -1, 1<<40)}))
			continue
		}
		var kids []*tree.Node
		for range r.Intn(3) {
			kids = append(kids, all[max(0, len(all)-1-r.Intn(5))])
		}
		kind, number := pick(r, api.NInner, api.NError, api.NRoot, api.NRoot, api.NBroken), 0
		if kind == api.NInner {
			number = r.Intn(9)
		}
		all = append(all, made(t, s, kind, number, kids...))
	}
	n := all[len(all)-1]
	for n.Size() > 60 {
		n, _ = n.Kid(r.Intn(n.Count()))
	}
	return n
}
