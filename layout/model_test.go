package layout_test

import (
	"slices"
	"strings"
	"testing"

	"graft/api"
	"graft/dfa"
	"graft/layout"
	"graft/tree"
)

// The model: what P1702 to P1704 say, by their words alone, over what chapter 3's Longest tells.

// model knows a spec and rules.
type model struct {
	s       api.Spec
	r       api.Rules
	machine *dfa.Machine
	met     map[string]int // what was tried, for tests that count it
}

func newModel(t testing.TB, s api.Spec, r api.Rules) *model {
	t.Helper()
	m, _, e := dfa.Build(s.Lex)
	if e != api.OK {
		t.Fatal(e)
	}
	return &model{s, r, m, map[string]int{}}
}

// sprig is a leaf with its bytes, token by token.
type sprig struct {
	kind   int
	trivia []string
	own    string
}

func (s sprig) skip() int { return len(strings.Join(s.trivia, "")) }

// sprigs are the leaves of a text (P10, P11).
func (m *model) sprigs(text string) (out []sprig) {
	var trivia []string
	for len(text) > 0 {
		rule, n, _ := m.machine.Longest([]byte(text))
		if n == 0 {
			rule, n = api.KBad, 1
		}
		if rule >= 0 && m.s.Lex[rule].Trivia {
			trivia = append(trivia, text[:n])
		} else {
			out = append(out, sprig{rule, trivia, text[:n]})
			trivia = nil
		}
		text = text[n:]
	}
	return append(out, sprig{kind: api.KEnd, trivia: trivia})
}

// bytesOf are those of a piece with these leaves.
func bytesOf(l []sprig) (out string) {
	for i, s := range l {
		if i > 0 {
			out += strings.Join(s.trivia, "")
		}
		out += s.own
	}
	return out
}

// isBlank is one of the bytes 9, 10, 13, 32.
func isBlank(b byte) bool { return b == 9 || b == 10 || b == 13 || b == 32 }

// comments are those among a leaf's trivia.
func (s sprig) comments() (out []string) {
	for _, token := range s.trivia {
		for token != "" && isBlank(token[0]) {
			token = token[1:]
		}
		for token != "" && isBlank(token[len(token)-1]) {
			token = token[:len(token)-1]
		}
		if token != "" {
			out = append(out, token)
		}
	}
	return out
}

// part is what a walk from the left meets: a gap's number, or so many leaves that are one piece.
type part struct {
	gap, leaves int
	wrong       bool // an error node
}

func (m *model) parts(n *tree.Node) (out []part) {
	if n.Kind() == api.NLeaf || n.Kind() == api.NError {
		if count := ownLeaves(n); count > 0 {
			return []part{{leaves: count, wrong: n.Kind() == api.NError}}
		}
		return nil
	}
	var gaps []int
	if n.Kind() == api.NInner && n.N() < len(m.s.Productions) && n.Count() == len(m.s.Productions[n.N()].Right) {
		gaps = m.r.Gaps[n.N()]
	}
	for i := range n.Count() {
		if gaps != nil {
			out = append(out, part{gap: gaps[i]})
		}
		kid, _ := n.Kid(i)
		out = append(out, m.parts(kid)...)
	}
	if gaps != nil {
		out = append(out, part{gap: gaps[n.Count()]})
	}
	return out
}

// ownLeaves tells how many leaves there are below a node, beside the end leaf.
func ownLeaves(n *tree.Node) (count int) {
	for _, l := range n.Leaves() {
		if l.N() != api.KEnd {
			count++
		}
	}
	return count
}

// span is a piece: its leaves, from .. to-1, and the spacing ahead of it. The last one is the end leaf's.
type span struct {
	from, to int
	ahead    string
}

// spans are the pieces of a tree whose leaves are these, with their spacings (P1702).
func (m *model) spans(n *tree.Node, l []sprig) (out []span) {
	var between []int
	depth, from := 0, 0
	for _, p := range m.parts(n) {
		if p.leaves == 0 {
			between = append(between, p.gap)
			if p.gap == api.GIn {
				depth++
			}
			if p.gap == api.GOut {
				depth = max(depth-1, 0)
			}
			continue
		}
		now := span{from: from, to: from + p.leaves}
		if len(out) == 0 {
			now.ahead = m.first(l[from].comments(), depth)
		} else {
			last := out[len(out)-1]
			now.ahead = m.spacing(l[last.from:last.to], l[now.from:now.to], between, depth)
		}
		out, between, from = append(out, now), nil, now.to
	}
	return append(out, span{from, from, m.last(l[from].comments())})
}

func (m *model) indents(depth int) string { return strings.Repeat(m.r.Indent, depth) }

// first is what stands ahead of the first piece.
func (m *model) first(comments []string, depth int) (out string) {
	m.met["first"] += len(comments)
	for _, c := range comments {
		out += c + m.r.Line + m.indents(depth)
	}
	return out
}

// last is what stands behind the last piece.
func (m *model) last(comments []string) (out string) {
	m.met["last"] += len(comments)
	if len(comments) > 0 {
		out = m.r.Blank
	}
	for _, c := range comments {
		out += c + m.r.Line
	}
	return out
}

// spacing is what stands between two neighbours.
func (m *model) spacing(a, b []sprig, between []int, depth int) string {
	comments := b[0].comments()
	if len(comments) > 0 {
		m.met["between"] += len(comments)
		out := m.r.Blank
		for _, c := range comments {
			out += c + m.r.Line + m.indents(depth)
		}
		return out
	}
	for _, kind := range []int{api.GLine, api.GIn, api.GOut} {
		if slices.Contains(between, kind) {
			m.met["line"]++
			return m.r.Line + m.indents(depth)
		}
	}
	if slices.Contains(between, api.GBlank) {
		m.met["blank"]++
		return m.r.Blank
	}
	if m.glued(a, b) {
		m.met["glued"]++
		return m.r.Blank
	}
	m.met["nothing"]++
	return ""
}

// glued says whether two pieces, directly behind one another, are other leaves.
func (m *model) glued(a, b []sprig) bool {
	got := m.sprigs(bytesOf(a) + bytesOf(b))
	if len(got) != len(a)+len(b)+1 {
		return true
	}
	for i, s := range append(slices.Clone(a), b...) {
		skip := s.skip()
		if i == 0 || i == len(a) {
			skip = 0
		}
		if got[i].kind != s.kind || got[i].skip() != skip || len(got[i].own) != len(s.own) {
			return true
		}
	}
	return got[len(got)-1].skip() != 0
}

// text is what is written of pieces.
func textOf(spans []span, l []sprig) (out string) {
	for _, s := range spans {
		out += s.ahead + bytesOf(l[s.from:s.to])
	}
	return out
}

// laidOut is P1703 and P1704.
func (m *model) laidOut(v version) (string, []api.Edit, api.Errno) {
	switch {
	case len(v.text) > 1<<18:
		return "", nil, api.ErrLong
	case v.root.Kind() != api.NRoot && v.root.Kind() != api.NBroken, len(v.text) != v.root.Width():
		return "", nil, api.ErrArg
	case v.root.Kind() == api.NBroken:
		return "", nil, api.ErrBroken
	}
	l := m.sprigs(v.text)
	if !areOf(l, v.root) {
		return "", nil, api.ErrLeaves
	}
	spans := m.spans(v.root, l)
	text := textOf(spans, l)
	if len(text) > 1<<18 {
		return "", nil, api.ErrLong
	}
	now := m.sprigs(text)
	if !holds(l, now, m.parts(v.root)) {
		m.met["does not hold"]++
		return "", nil, api.ErrGlue
	}
	if textOf(m.spans(v.root, now), now) != text {
		m.met["does not stay"]++
		return "", nil, api.ErrGlue
	}
	return text, editsOf(spans, l), api.OK
}

// areOf says whether leaves are those of a tree.
func areOf(l []sprig, n *tree.Node) bool {
	for _, leaf := range n.Leaves() {
		x, _ := leaf.Leaf()
		if len(l) == 0 || x.Kind != l[0].kind || x.Skip != l[0].skip() || x.Len != len(l[0].own) {
			return false
		}
		l = l[1:]
	}
	return len(l) == 0
}

// holds says whether leaves are others, by kinds, own bytes, and the trivia between those of one error node.
func holds(was, now []sprig, parts []part) bool {
	if len(was) != len(now) {
		return false
	}
	for i := range was {
		if was[i].kind != now[i].kind || was[i].own != now[i].own {
			return false
		}
	}
	at := 0
	for _, p := range parts {
		for i := at + 1; p.wrong && i < at+p.leaves; i++ {
			if strings.Join(was[i].trivia, "") != strings.Join(now[i].trivia, "") {
				return false
			}
		}
		at += p.leaves
	}
	return true
}

// editsOf is P1704.
func editsOf(spans []span, l []sprig) (out []api.Edit) {
	at := 0
	for _, s := range spans {
		there := strings.Join(l[s.from].trivia, "")
		if there != s.ahead {
			out = append(out, api.Edit{At: at, Del: len(there), Ins: []byte(s.ahead)})
		}
		at += len(there) + len(bytesOf(l[s.from:s.to]))
	}
	return out
}

// wantByWords holds what is told of a version against the model, and tells the error.
func wantByWords(t *testing.T, m *model, l *layout.Layout, v version) api.Errno {
	t.Helper()
	want, edits, e := m.laidOut(v)
	if got, err := l.Print(v.root, []byte(v.text)); got != want || err != e {
		t.Fatalf("P1703: %q: %q, %v, want %q, %v: %+v by %+v, of %s", v.text, got, err, want, e, v.root.Rows(), m.r, short(m.s))
	}
	if got, err := l.Edits(v.root, []byte(v.text)); !sameEdits(got, edits) || err != e {
		t.Fatalf("P1704: %q: %+v, %v, want %+v, %v: %+v by %+v, of %s", v.text, got, err, edits, e, v.root.Rows(), m.r, short(m.s))
	}
	if e == api.OK && done(v.text, edits) != want {
		t.Fatalf("P1706: %q: %+v do not make %q", v.text, edits, want)
	}
	return e
}
