package desk_test

import (
	"fmt"
	"math"
	"slices"
	"strings"
	"testing"

	"graft/api"
	"graft/desk"
)

// flaw is something wrong with an act: what makes it so, and the error.
type flaw struct {
	what string
	do   func(a *api.Act)
	err  api.Errno
}

// The flaws that acts of many kinds have.
var (
	noKind    = flaw{"no kind", func(a *api.Act) { a.Kind = 11 }, api.ErrArg}
	noSession = flaw{"no session", func(a *api.Act) { a.Session = 16 }, api.ErrSession}
	noDoc     = flaw{"no document", func(a *api.Act) { a.Doc = "none" }, api.ErrDoc}
)

// fulls is a desk at which there are the document d, with a version 1 that session 0 has undone, and full, which has MaxVersions of them.
func fulls(t testing.TB) *desk.Desk {
	t.Helper()
	d := tenDesk(t, opens("d", "1;"), edits(0, "d", 0, 0, "2"), edits(0, "d", 0, 0, "3"), ask(api.AUndo), opens("full", "1;"))
	for _, r := range d.Do(slices.Repeat(list(edits(7, "full", 0, 0, "")), api.MaxVersions-1)) {
		if r.Err != api.OK {
			t.Fatal(r.Err)
		}
	}
	does(t, d, list(jumps(0, "full", 0), asks(api.AUndo, 0, "full")), "0", "0") // so that it can be redone
	return d
}

// crowded is such a desk with as many documents as may be.
func crowded(t testing.TB) *desk.Desk {
	t.Helper()
	d := fulls(t)
	for i := range api.MaxDocs - 2 {
		does(t, d, list(opens(fmt.Sprint("n", i), "")), "0")
	}
	return d
}

// faulty is an act that is in order, with what can be wrong with it: the first comes first where there are several.
type faulty struct {
	act   api.Act
	flaws []flaw
}

// faulties are acts of all kinds, done at a desk such as fulls makes; full: there is no room for a document more.
func faulties(full bool) []faulty {
	long := strings.Repeat("1", api.MaxText+1)
	opening := []flaw{
		noKind,
		{"no bytes", func(a *api.Act) { a.Doc = "" }, api.ErrDoc},
		{"long", func(a *api.Act) { a.Ins = []byte(long) }, api.ErrLong},
	}
	if full {
		opening = []flaw{noKind, {"there", func(a *api.Act) { a.Doc = "d" }, api.ErrDoc}, {"full", func(*api.Act) {}, api.ErrFull}, {"full, and long", func(a *api.Act) { a.Ins = []byte(long) }, api.ErrFull}}
	}
	return []faulty{
		{opens("new", "1;"), opening},
		{closes("d"), []flaw{noKind, noDoc}},
		{edit(0, 1, "2"), []flaw{
			noKind, noSession, noDoc,
			{"range", func(a *api.Act) { a.Del = 5 }, api.ErrRange},
			{"long", func(a *api.Act) { a.Ins = []byte(long) }, api.ErrLong},
			{"full", func(a *api.Act) { a.Doc = "full" }, api.ErrFull},
		}},
		{batch(1), []flaw{noKind, noSession, noDoc, {"batch", func(a *api.Act) { a.N = 0 }, api.ErrBatch}}},
		{ask(api.AUndo), []flaw{noKind, noSession, noDoc, {"undo", func(a *api.Act) { a.Session = 1 }, api.ErrUndo}}},
		{ask(api.ARedo), []flaw{noKind, noSession, noDoc, {"undo", func(a *api.Act) { a.Session = 1 }, api.ErrUndo}}},
		{jump(1), []flaw{noKind, noSession, noDoc, {"version", func(a *api.Act) { a.Version = 3 }, api.ErrVersion}}},
		{ask(api.AText), []flaw{noKind, noSession, noDoc}},
		{ask(api.ATree), []flaw{noKind, noSession, noDoc}},
		{ask(api.AErrors), []flaw{noKind, noSession, noDoc}},
	}
}

// TestErrors is P1902: each error by itself, and each two at once: the first of their order is answered, and nothing is changed by it.
func TestErrors(t *testing.T) {
	for _, full := range []bool{false, true} {
		d := fulls(t)
		if full {
			d = crowded(t)
		}
		for _, x := range faulties(full) {
			for i, first := range x.flaws {
				for k := i; k < len(x.flaws); k++ {
					a := x.act
					x.flaws[k].do(&a) // a later one may write over it
					first.do(&a)
					wantErr(t, d, a, first.err, fmt.Sprintf("kind %d: %s and %s", x.act.Kind, first.what, x.flaws[k].what))
				}
			}
		}
	}
}

// wantErr has one act done that is refused. An edit stands behind it, for a batch, of a session that is none of the others'.
func wantErr(t testing.TB, d *desk.Desk, a api.Act, want api.Errno, what string) {
	t.Helper()
	before, names := everything(d), d.Docs()
	got := d.Do(list(a, edits(9, "d", 99, 0, "")))
	wantForm(t, a, got[0])
	if got[0].Err != want || got[1].Err != api.ErrRange {
		t.Errorf("P1902: %s: %v and then %v, not %v", what, got[0].Err, got[1].Err, want)
	}
	wantSame(t, nil, before, everything(d))
	if !slices.Equal(names, d.Docs()) {
		t.Errorf("P1904: %s: %q", what, d.Docs())
	}
}

// TestKinds: all numbers that are no kind, whatever else the act says.
func TestKinds(t *testing.T) {
	d := tenDesk(t, opens("d", "1;"))
	for _, kind := range []int{0, 11, -1, 12, 99, 1 << 32, 1<<32 + 1, 256 + api.AText, math.MinInt, math.MaxInt} {
		for _, a := range list(ask(kind), asks(kind, 16, "d"), asks(kind, 0, "none"), asks(kind, -1, ""), edits(0, "d", 9, 9, "1")) {
			a.Kind = kind
			does(t, d, list(a), "arg")
		}
	}
	does(t, d, list(ask(api.AText), jump(1)), "0 1;", "version")
}

// TestSessions: the numbers 0 to 15 are sessions, for each kind of act, and no others are; who opens and closes is not asked.
func TestSessions(t *testing.T) {
	for _, session := range []int{-1, 16, 17, -16, 1 << 32, math.MinInt, math.MaxInt} {
		d := tenDesk(t, opens("d", "1;"))
		for _, kind := range []int{api.AEdit, api.ABatch, api.AUndo, api.ARedo, api.AGoto, api.AText, api.ATree, api.AErrors} {
			does(t, d, list(asks(kind, session, "d"), asks(kind, session, "none"), asks(kind, session, "")), "session", "session", "session")
		}
		does(t, d, list(asks(api.AClose, session, "d"), asks(api.AClose, session, "d"), asks(api.AOpen, session, "d"), asks(api.AOpen, session, "d"), ask(api.AText)), "0", "doc", "0", "doc", "0 ")
	}
	for session := range api.MaxSessions {
		d := tenDesk(t, opens("d", "1;"))
		does(t, d, list(edits(session, "d", 0, 0, "2"), asks(api.AText, session, "d"), asks(api.AUndo, session, "d"), asks(api.ARedo, session, "d"), jumps(session, "d", 0), asks(api.AErrors, session, "d"), batches(session, "d", 1), edits(session, "d", 2, 0, ";"), asks(api.AErrors, session, "d")),
			"1", "1 21;", "0", "1", "0", "0", "2", "2", "2 2.2")
		for other := range api.MaxSessions {
			if other != session {
				does(t, d, list(asks(api.AText, other, "d"), asks(api.AUndo, other, "d"), asks(api.ARedo, other, "d")), "0 1;", "undo", "undo")
			}
		}
	}
}

// TestEngineErrors: what engine.Open and engine.Edit refuse is refused with their errors, at their bounds, and nothing is there then.
func TestEngineErrors(t *testing.T) {
	t.Parallel()
	most := strings.Repeat("1", api.MaxText)
	d := tenDesk(t)
	does(t, d, list(opens("a", most+"1"), asks(api.AText, 0, "a"), opens("a", most), edits(0, "a", 0, 0, "1"), edits(0, "a", 0, 1, "1"), edits(0, "a", 1, api.MaxText, ""), edits(0, "a", 0, 1, "11"), edits(0, "a", 0, math.MaxInt, ""), edits(0, "a", math.MaxInt, math.MaxInt, ""), edits(0, "a", -1, 0, ""), edits(0, "a", 0, -1, ""), edits(0, "a", 0, api.MaxText, "")),
		words("long|doc|0|long|1|range|long|range|range|range|range|2")...)
	text := filled(api.MaxRows)
	end := len(text)
	g := laid(t, compiled(t, great), 2)
	does(t, g, list(opens("a", filled(api.MaxRows+1)), asks(api.AText, 0, "a"), opens("a", text), edits(0, "a", end, 0, "y"), edits(1, "a", end-1, 1, ""), edits(0, "a", end, 0, "")), "full", "doc", "0", "full", "1", "2")
	if names := g.Docs(); !slices.Equal(names, []string{"a"}) {
		t.Errorf("P1904: %q", names)
	}
	// Four trees of so many rows are the most that a document has; two rows are left of these.
	does(t, g, list(asks(api.AUndo, 1, "a"), edits(1, "a", end, 0, ""), edits(1, "a", end, 0, ""), edits(1, "a", end-1, 1, ""), edits(1, "a", 0, end, ""), batches(1, "a", 2), edits(1, "a", 0, 0, "x"), edits(1, "a", 0, 1, ""), asks(api.AUndo, 1, "a"), asks(api.AUndo, 1, "a")), "0", "3", "full", "full", "full", "full", "batch", "batch", "0", "undo")
}
