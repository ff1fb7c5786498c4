package desk_test

import (
	"math"
	"math/rand"
	"strings"
	"testing"

	"graft/api"
)

// drawer draws acts.
type drawer struct {
	r     *rand.Rand
	l     language
	names []string
	long  []byte
}

func newDrawer(r *rand.Rand, l language) *drawer {
	return &drawer{r, l, []string{"a", "b", "c", "d"}, make([]byte, api.MaxText+1)}
}

// some is one of a list.
func some[T any](r *rand.Rand, l ...T) T { return l[r.Intn(len(l))] }

// number is a small one, at times one that is odd.
func (w *drawer) number(most int) int {
	if w.r.Intn(12) == 0 {
		return some(w.r, -1, most, 17, 999, math.MaxInt, math.MinInt, math.MaxInt-1)
	}
	return w.r.Intn(most)
}

func (w *drawer) session() int {
	if w.r.Intn(15) == 0 {
		return some(w.r, 15, 16, -1, math.MaxInt, math.MinInt)
	}
	return w.r.Intn(3)
}

func (w *drawer) name() string {
	if w.r.Intn(25) == 0 {
		return some(w.r, "", "none", "a\x00", strings.Repeat("n", api.MaxName), strings.Repeat("n", api.MaxName+1))
	}
	return some(w.r, w.names...)
}

func (w *drawer) bytes() []byte {
	if w.r.Intn(60) == 0 {
		return w.long
	}
	var out []byte
	for range w.r.Intn(4) {
		out = append(out, some(w.r, w.l.bits...)...)
	}
	return out
}

// any is an act with something in all fields.
func (w *drawer) any() api.Act {
	return api.Act{Kind: some(w.r, 0, -1, 11, math.MaxInt, math.MinInt), Session: w.session(), Doc: w.name(), Version: w.number(6), At: w.number(9), Del: w.number(4), Ins: w.bytes(), N: w.number(5)}
}

// opening opens a document.
func (w *drawer) opening() api.Act {
	a := w.any()
	a.Kind, a.Session = api.AOpen, w.number(20)
	a.Ins = []byte(some(w.r, w.l.texts...))
	if w.r.Intn(15) == 0 {
		a.Ins = some(w.r, w.long, w.bytes())
	}
	return a
}

// acts are a row of them, so many at least. All fields are filled, also those that are not needed.
func (w *drawer) acts(count int) []api.Act {
	var out []api.Act
	for len(out) < count {
		a := w.any()
		switch n := w.r.Intn(100); {
		case n < 2:
		case n < 12:
			a = w.opening()
		case n < 16:
			a.Kind, a.Session = api.AClose, w.number(20)
		case n < 40:
			a.Kind = api.AEdit
		case n < 52:
			out = append(out, w.batch(a)...)
			continue
		default:
			a.Kind = some(w.r, api.AUndo, api.AUndo, api.ARedo, api.AGoto, api.AText, api.ATree, api.AErrors)
		}
		out = append(out, a)
	}
	return out
}

// batch is one with acts behind it, mostly such as it asks for; at times there are too few, or one is of another kind, session or document.
func (w *drawer) batch(a api.Act) []api.Act {
	a.Kind, a.N = api.ABatch, w.number(4)+w.r.Intn(2)
	out := []api.Act{a}
	for range min(max(a.N, 0), 5) {
		x := w.any()
		x.Kind, x.Session, x.Doc = api.AEdit, a.Session, a.Doc
		out = append(out, x)
	}
	if x := &out[w.r.Intn(len(out))]; w.r.Intn(5) == 0 {
		switch w.r.Intn(4) {
		case 0:
			x.Kind = some(w.r, api.AText, api.ABatch, api.AUndo, 0)
		case 1:
			x.Session = w.session()
		case 2:
			x.Doc = w.name()
		case 3:
			out = out[:len(out)-1]
		}
	}
	return out
}

// TestDrawn is P1902 to P1905: many rows of acts at desks with one, a few and many workers, held against a desk that does them one after the other.
func TestDrawn(t *testing.T) {
	t.Parallel()
	met := map[string]int{}
	for i, l := range languages() {
		e := compiled(t, l.spec)
		for seed := range 80 {
			w := newDrawer(rand.New(rand.NewSource(int64(1900+100*i+seed))), l)
			both := newTwins(t, e, 1, 3, api.MaxWorkers)
			for range 6 {
				acts := w.acts(w.r.Intn(80))
				for k, x := range both.do(t, acts) {
					met[meets(acts[k], x)]++
				}
			}
			both.look(t)
		}
	}
	for _, what := range strings.Fields("none.arg open.ok open.doc open.long close.ok close.doc edit.ok edit.session edit.doc edit.range edit.long edit.batch batch.ok batch.session batch.doc batch.batch undo.ok undo.session undo.doc undo.undo redo.ok redo.undo goto.ok goto.session goto.doc goto.version text.ok text.session text.doc tree.ok tree.session tree.doc errors.ok errors.session errors.doc") {
		if met[what] < 30 {
			t.Errorf("too few acts: %s: %d", what, met[what])
		}
	}
}

// meets says what an act was, and how it was answered.
func meets(a api.Act, x answer) string {
	if a.Kind < api.AOpen || a.Kind > api.AClose {
		return "none." + x.Err.Error()
	}
	return strings.Fields("open edit batch undo redo goto text tree errors close")[a.Kind-1] + "." + x.Err.Error()
}

// TestManyVersions is P1902 with P10 to P14: long rows of edits of a few documents, of right and wrong texts, by several sessions.
func TestManyVersions(t *testing.T) {
	t.Parallel()
	for i, l := range languages() {
		w := newDrawer(rand.New(rand.NewSource(int64(1970+i))), l)
		both := newTwins(t, compiled(t, l.spec), 1, api.MaxWorkers)
		for _, name := range w.names {
			both.do(t, list(opens(name, some(w.r, l.texts...))))
		}
		for range 12 {
			var acts []api.Act
			for range 60 {
				a := api.Act{Kind: some(w.r, api.AEdit, api.AEdit, api.AEdit, api.AEdit, api.AUndo, api.ARedo, api.AGoto, api.ATree, api.AErrors, api.AText), Session: w.r.Intn(3), Doc: some(w.r, w.names...)}
				a.At, a.Del, a.Version = w.r.Intn(24), w.r.Intn(3), w.r.Intn(40)
				for range w.r.Intn(3) {
					a.Ins = append(a.Ins, some(w.r, l.bits...)...)
				}
				acts = append(acts, a)
			}
			both.do(t, acts)
		}
		both.look(t)
		wantAllVersions(t, both)
	}
}

// wantAllVersions asks for every version of every document.
func wantAllVersions(t testing.TB, both *twins) {
	t.Helper()
	for _, x := range both.p.docs {
		for version := range x.texts {
			both.do(t, list(jumps(5, x.name, version), asks(api.AText, 5, x.name), asks(api.ATree, 5, x.name), asks(api.AErrors, 5, x.name)))
		}
	}
}
