package desk_test

import (
	"bytes"
	"slices"
	"testing"

	"graft/api"
	"graft/desk"
	"graft/engine"
)

// twins are desks of one engine at which the same is done, each held against one plain desk.
type twins struct {
	e     *engine.Engine
	p     *plain
	desks []*desk.Desk
	ids   []pairs
	seen  map[string]fresh
}

// node is a node of a document, by its Id.
type node struct {
	of *paper
	id int
}

// pairs say which Id of a desk's is which one of the plain desk's, and the other way round.
type pairs struct {
	there, back map[node]int
}

// fresh is what a text tells that was opened afresh.
type fresh struct {
	rows  []api.Row
	spans []api.Span
}

func newTwins(t testing.TB, e *engine.Engine, workers ...int) *twins {
	t.Helper()
	w := &twins{e: e, p: &plain{e: e}, seen: map[string]fresh{}}
	for _, n := range workers {
		w.desks = append(w.desks, laid(t, e, n))
		w.ids = append(w.ids, pairs{map[node]int{}, map[node]int{}})
	}
	return w
}

// do has acts done everywhere, and tells what the plain desk answers.
func (w *twins) do(t testing.TB, l []api.Act) []answer {
	t.Helper()
	want := w.p.do(l)
	for i, d := range w.desks {
		got := d.Do(l)
		if len(got) != len(l) {
			t.Fatalf("P1902: %d replies to %d acts", len(got), len(l))
		}
		for k, r := range got {
			wantForm(t, l[k], r)
			if !sameReply(r, want[k].Reply) {
				t.Fatalf("P1902: desk %d, act %d of %+v: %+v, not %+v", i, k, l, r, want[k].Reply)
			}
			w.wantIds(t, i, r.Rows, want[k])
		}
		if names := d.Docs(); !slices.Equal(names, w.p.names()) {
			t.Fatalf("P1904: %q, not %q", names, w.p.names())
		}
	}
	for _, x := range want {
		w.wantFresh(t, x)
	}
	return want
}

// sameReply says whether two replies are alike, Ids left out.
func sameReply(a, b api.Reply) bool {
	return a.Err == b.Err && a.Version == b.Version && bytes.Equal(a.Text, b.Text) && slices.Equal(bare(a.Rows), bare(b.Rows)) && slices.Equal(a.Spans, b.Spans)
}

// bare are rows, Ids left out.
func bare(rows []api.Row) []api.Row {
	rows = slices.Clone(rows)
	for i := range rows {
		rows[i].Id = 0
	}
	return rows
}

// wantIds is P1905 of Ids: the same node has the same one in every reply, and each has its own. The plain desk's nodes are as many, at the same places: so edits of batches must be the same too.
func (w *twins) wantIds(t testing.TB, i int, rows []api.Row, want answer) {
	t.Helper()
	there, back := w.ids[i].there, w.ids[i].back
	for k, r := range rows {
		a, b := node{want.of, r.Id}, node{want.of, want.Rows[k].Id}
		if was, ok := there[a]; r.Id < 1 || ok && was != b.id {
			t.Fatalf("P1905: %q, version %d: row %d has the Id of another node", want.of.name, want.Version, k)
		}
		if was, ok := back[b]; ok && was != a.id {
			t.Fatalf("P1905: %q, version %d: row %d has another Id than before", want.of.name, want.Version, k)
		}
		there[a], back[b] = b.id, a.id
	}
}

// wantFresh is P10 to P14 of what lies at a desk: it tells what its text tells, however the text was reached.
func (w *twins) wantFresh(t testing.TB, x answer) {
	t.Helper()
	if x.Err != api.OK || x.of == nil || len(x.Rows)+len(x.Spans) == 0 {
		return
	}
	text := x.of.texts[x.Version]
	f, ok := w.seen[text]
	if !ok {
		d, err := w.e.Open([]byte(text))
		if err != api.OK {
			t.Fatalf("%v of %q", err, text)
		}
		rows, _ := d.Tree(0)
		spans, _ := d.Errors(0)
		f = fresh{bare(rows), spans}
		w.seen[text] = f
	}
	if len(x.Rows) > 0 && !slices.Equal(bare(x.Rows), f.rows) || len(x.Spans) > 0 && !slices.Equal(x.Spans, f.spans) {
		t.Fatalf("P13: of %q: %v %v, not %v %v", text, x.Rows, x.Spans, f.rows, f.spans)
	}
}

// look asks for all that can be seen: of every document the texts and trees of all sessions, how far each can go back and on again, and all versions; and at last puts each session back to where it stood.
func (w *twins) look(t testing.TB) {
	t.Helper()
	for _, name := range w.p.names() {
		for session := range api.MaxSessions {
			s := &w.p.find(name).stands[session]
			l := []api.Act{asks(api.AText, session, name)}
			if session < 4 {
				l = append(l, asks(api.ATree, session, name), asks(api.AErrors, session, name))
			}
			back, onto := len(s.back), len(s.onto)
			l = append(l, slices.Repeat([]api.Act{asks(api.AUndo, session, name)}, back+1)...)
			l = append(l, slices.Repeat([]api.Act{asks(api.ARedo, session, name)}, back+onto+1)...)
			l = append(l, slices.Repeat([]api.Act{asks(api.AUndo, session, name)}, onto)...)
			w.do(t, l)
		}
	}
}
