package desk_test

import (
	"fmt"
	"math/rand"
	"slices"
	"strings"
	"testing"

	"graft/api"
	"graft/desk"
)

// wantDocs is P1904.
func wantDocs(t testing.TB, d *desk.Desk, want ...string) {
	t.Helper()
	if got := d.Docs(); !slices.Equal(got, want) {
		t.Fatalf("P1904: %q, not %q", got, want)
	}
}

// TestNames: a name is a text of 1 to MaxName bytes, any ones.
func TestNames(t *testing.T) {
	d := tenDesk(t)
	for i := range 256 {
		for _, name := range []string{string([]byte{byte(i)}), strings.Repeat(string([]byte{byte(i)}), api.MaxName), "a" + string([]byte{byte(i)})} {
			does(t, d, list(opens(name, "1;"), opens(name, "2;"), edits(0, name, 0, 0, "3"), asks(api.AText, 0, name), asks(api.AText, 1, name)), "0", "doc", "1", "1 31;", "0 1;")
			wantDocs(t, d, name)
			does(t, d, list(closes(name), closes(name), asks(api.AText, 0, name)), "0", "doc", "doc")
		}
	}
	for _, name := range []string{"", strings.Repeat("n", api.MaxName+1), strings.Repeat("\x00", api.MaxName+1), strings.Repeat("é", api.MaxName/2+1), strings.Repeat("n", 1<<20)} {
		does(t, d, list(opens(name, "1;"), closes(name)), "doc", "doc")
		for kind := api.AEdit; kind < api.AClose; kind++ {
			does(t, d, list(asks(kind, 0, name)), "doc")
		}
		wantDocs(t, d)
	}
}

// TestDocsRise is P1904: the names rise bytewise, whatever they are and in whatever order they were opened.
func TestDocsRise(t *testing.T) {
	names := []string{"\x00", "\x00\x00", "\x00a", " ", "A", "B", "Z", "a", "a\x00", "aa", "ab", "b", "\x7f", "\x80", "\xc3", "\xc3\xa9", "\xc3\xbf", "\xe2\x82\xac", "\xff", "\xff\x00", "\xff\xff"}
	r := rand.New(rand.NewSource(1904))
	for range 20 {
		d := tenDesk(t)
		there := map[string]int{}
		for _, i := range r.Perm(len(names)) {
			does(t, d, list(opens(names[i], "")), "0")
			there[names[i]]++
			if r.Intn(4) == 0 {
				gone := some(r, names...)
				if there[gone] > 0 {
					does(t, d, list(closes(gone)), "0")
					there[gone]--
				}
			}
			wantDocs(t, d, slices.DeleteFunc(slices.Clone(names), func(s string) bool { return there[s] == 0 })...)
		}
	}
}

// crowd opens so many documents.
func crowd(count int) (out []api.Act) {
	for i := range count {
		out = append(out, opens(fmt.Sprint("n", i), fmt.Sprint(i, ";")))
	}
	return out
}

// TestMostDocs: MaxDocs documents and one more, in one Do and in several; one that is closed makes room for another, in the same Do too.
func TestMostDocs(t *testing.T) {
	want := append(slices.Repeat([]string{"0"}, api.MaxDocs), "full", "full")
	together, alone := tenDesk(t), tenDesk(t)
	does(t, together, crowd(api.MaxDocs+2), want...)
	for i, a := range crowd(api.MaxDocs + 2) {
		does(t, alone, list(a), want[i])
	}
	for _, d := range []*desk.Desk{together, alone} {
		if n := len(d.Docs()); n != api.MaxDocs {
			t.Fatalf("P1904: %d documents", n)
		}
		does(t, d, list(asks(api.AText, 0, "n63"), asks(api.AText, 0, "n64")), "0 63;", "doc")
		does(t, d, list(opens("x", ""), closes("n5"), opens("x", "7"), opens("y", ""), asks(api.AText, 0, "n5"), asks(api.AText, 0, "x"), opens("n5", ""), closes("x"), opens("n5", "8"), opens("x", ""), asks(api.AText, 0, "n5")),
			"full", "0", "0", "full", "doc", "0 7", "full", "0", "0", "full", "0 8")
		does(t, d, list(opens("n7", ""), opens("", ""), opens("x", strings.Repeat("1", api.MaxText+1)), closes("n8"), opens("x", strings.Repeat("1", api.MaxText+1)), opens("y", ""), opens("z", "")), "doc", "doc", "full", "0", "long", "0", "full")
	}
}

// TestMostActs: MaxActs acts, and one more, of which then none is done.
func TestMostActs(t *testing.T) {
	d := tenDesk(t)
	acts := append(list(opens("d", "1;")), slices.Repeat(list(ask(api.AText)), api.MaxActs)...)
	for _, n := range []int{api.MaxActs + 1, 2 * api.MaxActs, 5 * api.MaxActs} {
		more := slices.Repeat(acts, 5)[:n]
		does(t, d, more, slices.Repeat([]string{"long"}, n)...)
		wantDocs(t, d)
	}
	does(t, d, acts[:api.MaxActs], append([]string{"0"}, slices.Repeat([]string{"0 1;"}, api.MaxActs-1)...)...)
	wantDocs(t, d, "d")
	edited := slices.Repeat(list(edit(0, 0, "2")), api.MaxActs+1)
	does(t, d, edited, slices.Repeat([]string{"long"}, api.MaxActs+1)...)
	does(t, d, list(ask(api.AText), jump(1)), "0 1;", "version")
	does(t, d, nil)
	does(t, d, []api.Act{})
	for i, r := range d.Do(edited[:api.MaxActs]) { // as many versions as may be, and one more
		if i < api.MaxVersions-1 && r.Version != i+1 || i == api.MaxVersions-1 && r.Err != api.ErrFull {
			t.Fatalf("P1902: act %d: %v %d", i, r.Err, r.Version)
		}
	}
}

// TestAgain: a document that is closed and opened again under its name, within one Do, has none of its versions and stands.
func TestAgain(t *testing.T) {
	acts := list(
		opens("d", "1;"), edit(0, 0, "2"), edits(3, "d", 0, 0, "33"), edit(0, 0, "4"), ask(api.AUndo), ask(api.AText), asks(api.AText, 3, "d"),
		closes("d"), ask(api.AText), ask(api.AUndo), edits(3, "d", 0, 0, ""), closes("d"),
		opens("d", "5;"), ask(api.AText), asks(api.AText, 3, "d"), ask(api.AUndo), ask(api.ARedo), asks(api.AUndo, 3, "d"), jump(1), edits(3, "d", 0, 1, "6"), asks(api.AText, 3, "d"), ask(api.AText), jump(1), ask(api.AText),
		closes("d"), opens("d", "7;"), asks(api.AText, 3, "d"), jump(1), asks(api.ATree, 3, "d"), asks(api.AErrors, 3, "d"))
	want := words("0|1|2|3|1|1 21;|2 331;|0|doc|doc|doc|doc|0|0 5;|0 5;|undo|undo|undo|version|1|1 6;|0 5;|1|1 6;|0|0|0 7;|version|0 R.2 0.2 1.0 2.2 5.1 6.1 '0:0:1 '2:0:1 '-2:0:0|0")
	does(t, tenDesk(t), acts, want...)
	alone := tenDesk(t)
	for i, a := range acts {
		does(t, alone, list(a), want[i])
	}
}

// TestOftenClosed: as many documents are opened, edited and closed within one Do as there can be, of one name and of many; some stay for a while. Their replies are those of acts that are done one after the other.
func TestOftenClosed(t *testing.T) {
	t.Parallel()
	r := rand.New(rand.NewSource(1909))
	e := compiled(t, ten)
	for _, names := range []int{1, 3, 50, 200} {
		both := newTwins(t, e, 1, 5, api.MaxWorkers)
		for range 3 {
			var acts []api.Act
			for len(acts) < api.MaxActs-10 {
				name := fmt.Sprint("n", r.Intn(names))
				acts = append(acts, opens(name, fmt.Sprint(r.Intn(9), ";")))
				for range r.Intn(3) {
					session := r.Intn(2)
					acts = append(acts, batches(session, name, 2), edits(session, name, 0, 0, "1"), edits(session, name, r.Intn(3), 1, "+"), asks(some(r, api.AText, api.ATree, api.AErrors, api.AUndo), session, name))
				}
				if r.Intn(4) > 0 {
					acts = append(acts, closes(name))
				}
			}
			both.do(t, acts)
		}
		both.look(t)
	}
}

// TestClose is P1904: a closed desk has no documents, and does nothing any more; it may be closed again.
func TestClose(t *testing.T) {
	for _, d := range []*desk.Desk{tenDesk(t), tenDesk(t, opens("d", "1;"), opens("e", "1;"), edit(0, 0, "2"))} {
		for range 3 {
			d.Close()
			wantDocs(t, d)
			does(t, d, list(opens("d", "1;"), ask(api.AText), asks(99, 99, "none"), closes("d"), batch(1), edit(0, 0, "")), words("shut|shut|shut|shut|shut|shut")...)
			does(t, d, slices.Repeat(list(ask(api.AText)), api.MaxActs+1), slices.Repeat([]string{"shut"}, api.MaxActs+1)...)
			does(t, d, nil)
			wantDocs(t, d)
		}
	}
}

// TestNeedless: what an act does not need of its fields may be anything.
func TestNeedless(t *testing.T) {
	long := []byte(strings.Repeat("1", api.MaxText+1))
	for _, x := range []api.Act{
		{},
		{Session: -1, Version: -1, At: -1, Del: -1, N: -1},
		{Session: 1 << 40, Version: 1 << 40, At: 1 << 40, Del: 1 << 40, Ins: long, N: 1 << 40},
		{Session: -1 << 63, Version: -1 << 63, At: -1 << 63, Del: -1 << 63, Ins: []byte("#"), N: -1 << 63},
		{Session: 16, Version: 1, At: 1, Del: 1, Ins: []byte{}, N: 1},
	} {
		opening := x
		opening.Kind, opening.Doc, opening.Ins = api.AOpen, "d", []byte("1;")
		closing := x
		closing.Kind, closing.Doc = api.AClose, "d"
		editing := edit(0, 1, "2")
		editing.Version, editing.N = x.Version, x.N
		batching := x
		batching.Kind, batching.Session, batching.Doc, batching.N = api.ABatch, 0, "d", 1
		jumping := x
		jumping.Kind, jumping.Session, jumping.Doc, jumping.Version = api.AGoto, 0, "d", 0
		bare := func(kind int) api.Act {
			a := x
			a.Kind, a.Session, a.Doc = kind, 0, "d"
			return a
		}
		d := tenDesk(t)
		does(t, d, list(opening, editing, bare(api.AText), batching, editing, bare(api.AErrors), bare(api.AUndo), bare(api.ARedo), jumping, bare(api.ATree), closing, bare(api.AText)),
			words("0|1|1 2;|2|2|2|1|2|0|0 R.2 0.2 1.0 2.2 5.1 6.1 '0:0:1 '2:0:1 '-2:0:0|0|doc")...)
	}
}
