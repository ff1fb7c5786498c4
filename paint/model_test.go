package paint_test

import (
	"fmt"
	"slices"
	"strings"
	"testing"

	"graft/api"
	"graft/query"
	"graft/tree"
)

// The model: what P1602 to P1604 say, by their words alone, over what chapter 14's Match tells.

// place is a node of a tree, by its path.
type place struct {
	path     []int
	from, to int
}

// placesOf are all nodes of a tree, in the order of Walk; at is where the tree begins.
func placesOf(n *tree.Node, path []int, at int) []place {
	own := place{path: path, from: at, to: at}
	if l, ok := n.Leaf(); ok {
		own.from, own.to = at+l.Skip, at+l.Skip+l.Len
	} else if n.Leafs() > 0 {
		for where, leaf := range n.Leaves() {
			l, _ := leaf.Leaf()
			own.from = at + where + l.Skip
			break
		}
		own.to = at + n.Width()
	}
	all := []place{own}
	for i := range n.Count() {
		kid, _ := n.Kid(i)
		all = append(all, placesOf(kid, append(slices.Clone(path), i), at)...)
		at += kid.Width()
	}
	return all
}

// key is a path as a map's key.
func key(path []int) string { return fmt.Sprint(path) }

// firsts are the its of a query, each with the first finding in which it is.
type firsts map[string]api.Match

// model knows a version, and what the queries of a painter find there.
type model struct {
	version
	l                      lists
	all                    []place
	styles, folds, outline []firsts
}

func newModel(t *testing.T, s api.Spec, l lists, v version) *model {
	t.Helper()
	m := &model{version: v, l: l, all: placesOf(v.root, nil, 0)}
	for _, x := range l.styles {
		m.styles = append(m.styles, firstsOf(t, s, x.Query, v))
	}
	for _, x := range l.folds {
		m.folds = append(m.folds, firstsOf(t, s, x, v))
	}
	for _, x := range l.outline {
		m.outline = append(m.outline, firstsOf(t, s, x, v))
	}
	return m
}

func firstsOf(t *testing.T, s api.Spec, text string, v version) firsts {
	t.Helper()
	q, f := query.Parse(s, text)
	if f != (api.Fault{}) {
		t.Fatalf("P1402: %s: %+v", text, f)
	}
	found, e := q.Match(v.root, v.text)
	if e != api.OK {
		t.Fatalf("P1405: %s: %v", text, e)
	}
	out, count := firsts{}, 0
	for m := range found {
		if count++; count > api.MaxTries {
			t.Fatalf("%s finds too much in %q", text, v.text)
		}
		if it := slices.IndexFunc(m.Caps, func(c api.Cap) bool { return c.Name == "it" }); it >= 0 {
			if _, met := out[key(m.Caps[it].Path)]; !met {
				out[key(m.Caps[it].Path)] = m
			}
		}
	}
	return out
}

// styleOf tells which style a byte has; -1, if none: of all nodes that hold it and are an it the lowest, of all styles of which that is an it the last.
func (m *model) styleOf(at int) int {
	depth, style := -1, -1
	for _, p := range m.all {
		if p.from > at || at >= p.to || len(p.path) < depth {
			continue
		}
		for i, f := range m.styles {
			if _, is := f[key(p.path)]; is {
				depth, style = len(p.path), i
			}
		}
	}
	return style
}

// paints is P1602.
func (m *model) paints() (out []api.Paint) {
	ahead := ""
	for at := range m.text {
		name := ""
		if i := m.styleOf(at); i >= 0 {
			name = m.l.styles[i].Name
		}
		switch {
		case name != "" && name == ahead:
			out[len(out)-1].To++
		case name != "":
			out = append(out, row(at, at+1, name))
		}
		ahead = name
	}
	return out
}

// foldsTold is P1603.
func (m *model) foldsTold() (out []api.Span) {
	for _, p := range m.all {
		is := slices.ContainsFunc(m.folds, func(f firsts) bool { _, is := f[key(p.path)]; return is })
		if is && strings.Contains(string(m.text[p.from:p.to]), "\n") && !slices.Contains(out, span(p.from, p.to)) {
			out = append(out, span(p.from, p.to))
		}
	}
	slices.SortFunc(out, func(a, b api.Span) int {
		if a.From != b.From {
			return a.From - b.From
		}
		return b.To - a.To
	})
	return out
}

// entryOf is the entry of a node, but for its depth.
func (m *model) entryOf(p place) (api.Entry, bool) {
	for _, f := range m.outline {
		found, is := f[key(p.path)]
		if !is {
			continue
		}
		name := ""
		for _, c := range found.Caps {
			if c.Name == "name" {
				name = string(m.text[c.From:c.To])
			}
		}
		return entry(0, p.from, p.to, name[:min(len(name), 64)]), true
	}
	return api.Entry{}, false
}

// entries is P1604.
func (m *model) entries() (out []api.Entry) {
	has := map[string]bool{}
	for _, p := range m.all {
		e, is := m.entryOf(p)
		if !is {
			continue
		}
		for d := range p.path {
			if has[key(p.path[:d])] {
				e.Depth++
			}
		}
		has[key(p.path)] = true
		out = append(out, e)
	}
	return out
}

// wantByWords holds what a painter tells of a version against the model, and P1607.
func wantByWords(t *testing.T, s api.Spec, l lists, v version) {
	t.Helper()
	m := newModel(t, s, l, v)
	got := told(t, painter(t, s, l), v)
	if want := m.paints(); !slices.Equal(got.paints, want) {
		t.Errorf("P1602: %v, want %v", got.paints, want)
	}
	if want := m.foldsTold(); !slices.Equal(got.folds, want) {
		t.Errorf("P1603: %v, want %v", got.folds, want)
	}
	if want := m.entries(); !slices.Equal(got.entries, want) {
		t.Errorf("P1604: %v, want %v", got.entries, want)
	}
	wantOrder(t, l, v, got)
	if t.Failed() {
		t.Fatalf("%+v of %q", l, v.text)
	}
}

// wantOrder is P1607.
func wantOrder(t *testing.T, l lists, v version, got answers) {
	t.Helper()
	end, name := 0, ""
	for _, p := range got.paints {
		is := slices.ContainsFunc(l.styles, func(s api.Style) bool { return s.Name == p.Name })
		if p.From < end || p.From == end && p.Name == name || p.From >= p.To || p.To > len(v.text) || !is {
			t.Errorf("P1607: %v", got.paints)
		}
		end, name = p.To, p.Name
	}
	for i, f := range got.folds {
		if f.From >= f.To || slices.Contains(got.folds[:i], f) {
			t.Errorf("P1607: %v", got.folds)
		}
	}
	wantNested(t, got.entries)
}

// wantNested is P1607 of an outline.
func wantNested(t *testing.T, l []api.Entry) {
	t.Helper()
	for i, e := range l {
		if i == 0 && e.Depth != 0 || i > 0 && (e.Depth < 0 || e.Depth > l[i-1].Depth+1) {
			t.Errorf("P1607: %v", l)
		}
		if e.From == e.To || e.Depth == 0 {
			continue
		}
		for j := i - 1; ; j-- {
			if l[j].Depth == e.Depth-1 {
				if e.From < l[j].From || e.To > l[j].To {
					t.Errorf("P1607: %v lies not within %v", e, l[j])
				}
				break
			}
		}
	}
}
