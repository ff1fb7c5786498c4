package desk_test

import (
	"fmt"
	"slices"
	"testing"

	"graft/api"
	"graft/desk"
)

// TestExamples are those of the chapter.
func TestExamples(t *testing.T) {
	t.Run("1", func(t *testing.T) {
		d := tenDesk(t)
		does(t, d, list(opens("d", "1;"), edit(0, 1, "2"), ask(api.AText)), "0", "1", "1 2;")
		does(t, d, list(ask(api.AUndo), ask(api.AUndo), ask(api.ARedo), asks(api.AText, 1, "d")), "0", "undo", "1", "0 1;")
	})
	t.Run("2", func(t *testing.T) {
		d := tenDesk(t, opens("d", "1;"))
		does(t, d, list(batch(2), edit(0, 0, "x"), edit(1, 1, ""), ask(api.AText), ask(api.AUndo)), "1", "1", "1", "1 x;", "0")
	})
	t.Run("3", func(t *testing.T) {
		d := tenDesk(t, opens("d", "1;"))
		does(t, d, list(batch(2), edit(0, 0, "x"), edit(9, 0, ""), ask(api.AText), jump(1)), "batch", "batch", "range", "0 1;", "version")
		does(t, d, list(batch(3), edit(0, 0, "x"), edit(9, 0, "")), "batch", "1", "range")
	})
	t.Run("4", func(t *testing.T) {
		d := tenDesk(t, opens("d", "1;"))
		does(t, d, list(opens("d", "2;"), edits(0, "e", 0, 0, ""), asks(api.AText, 16, "d"), ask(11), jump(7)), "doc", "doc", "session", "arg", "version")
	})
	t.Run("5", func(t *testing.T) {
		d := tenDesk(t, opens("d", "aa"))
		old := d.Do(list(ask(api.ATree)))[0].Rows
		does(t, d, list(batch(1), edit(0, 1, ""), ask(api.AText)), "1", "1", "1 a")
		now := d.Do(list(ask(api.ATree)))[0].Rows
		if len(old) != 4 || len(now) != 3 || now[1] != old[1] { // a broken root, its leaves, and the end: the second leaf was taken out
			t.Errorf("P1903: %v and then %v", old, now)
		}
	})
}

// TestOneEdit is example 5, and others, seen by the nodes that stay: of statements that are all alike those at the front do, whichever was taken out.
func TestOneEdit(t *testing.T) {
	for at := 0; at <= 4; at += 2 {
		d := tenDesk(t, opens("d", "1;1;1;"))
		r := d.Do(list(ask(api.ATree), batch(1), edit(at, 2, ""), ask(api.ATree)))
		two, three := statements(r[3].Rows), statements(r[0].Rows)
		if len(three) != 3 || len(two) != 2 || two[0] != three[0] {
			t.Errorf("P1903: at %d: the nodes %v and then %v", at, three, two)
		}
		if got, want := kept(r[0].Rows, r[3].Rows), keptBy(t, "1;1;1;", 4, 2, ""); got != want {
			t.Errorf("P1903: at %d: %d nodes stay, not %d", at, got, want)
		}
	}
}

// statements are the Ids of the nodes of S = E semi.
func statements(rows []api.Row) (out []int) {
	for _, r := range rows {
		if r.Kind == api.NInner && r.N == 2 {
			out = append(out, r.Id)
		}
	}
	return out
}

// kept tells how many rows have an Id that stood in the other ones.
func kept(old, now []api.Row) int {
	n := 0
	for _, r := range now {
		if slices.ContainsFunc(old, func(x api.Row) bool { return x.Id == r.Id }) {
			n++
		}
	}
	return n
}

// keptBy tells how many nodes stay where an edit is asked of engine itself.
func keptBy(t testing.TB, text string, at, del int, ins string) int {
	t.Helper()
	d, err := compiled(t, ten).Open([]byte(text))
	if err != api.OK {
		t.Fatal(err)
	}
	n, err := d.Edit(0, at, del, []byte(ins))
	if err != api.OK {
		t.Fatal(err)
	}
	old, _ := d.Tree(0)
	now, _ := d.Tree(n)
	return kept(old, now)
}

// TestTenExamples are DOC.md's, of documents at a desk: P10 to P14.
func TestTenExamples(t *testing.T) {
	for _, x := range []struct{ text, rows, errors string }{
		{"1;", "R.2 0.2 1.0 2.2 5.1 6.1 '0:0:1 '2:0:1 '-2:0:0", ""},
		{"", "R.2 1.0 '-2:0:0", ""},
		{"1 + 2 ;", "R.2 0.2 1.0 2.2 4.3 5.1 6.1 '0:0:1 '1:1:1 6.1 '0:1:1 '2:1:1 '-2:0:0", ""},
		{"1 2;", "R.2 0.2 1.0 3.2 E.2 '0:0:1 '0:1:1 '2:0:1 '-2:0:0", " 0.3"},
		{"1+;", "R.2 0.2 1.0 3.2 E.2 5.1 6.1 '0:0:1 '1:0:1 '2:0:1 '-2:0:0", " 0.2"},
		{";", "R.2 0.2 1.0 3.2 E.0 '2:0:1 '-2:0:0", " 0.0"},
		{"1", "B.2 '0:0:1 '-2:0:0", " 0.1"},
		{"1;#;2;", "R.2 0.2 0.2 0.2 1.0 2.2 5.1 6.1 '0:0:1 '2:0:1 3.2 E.1 '-1:0:1 '2:0:1 2.2 5.1 6.1 '0:0:1 '2:0:1 '-2:0:0", " 2.3"},
	} {
		d := tenDesk(t, opens("a", x.text), opens("b", "7+7"))
		// The same text is reached by an edit, and by a batch that puts it in byte by byte.
		acts := list(edits(0, "b", 0, 3, x.text), jumps(1, "b", 0), batches(1, "b", 1+len(x.text)), edits(1, "b", 0, 3, ""))
		for i := range len(x.text) {
			acts = append(acts, edits(1, "b", i, 0, x.text[i:i+1]))
		}
		for i, r := range d.Do(acts) {
			if r.Err != api.OK {
				t.Fatalf("P1902: act %d: %v", i, r.Err)
			}
		}
		does(t, d, list(asks(api.ATree, 3, "a"), asks(api.AErrors, 3, "a"), asks(api.AText, 3, "a")), "0 "+x.rows, "0"+x.errors, "0 "+x.text)
		for session, version := range []string{"1", "2"} {
			does(t, d, list(asks(api.ATree, session, "b"), asks(api.AErrors, session, "b"), asks(api.AText, session, "b")), version+" "+x.rows, version+x.errors, version+" "+x.text)
		}
	}
}

// TestNinthExample: the list over the first statement is the same node behind an edit further on.
func TestNinthExample(t *testing.T) {
	d := tenDesk(t, opens("d", "1;2;3;"))
	r := d.Do(list(ask(api.ATree), edit(4, 1, "45"), ask(api.ATree), ask(api.AText)))
	if string(r[3].Text) != "1;2;45;" || statements(r[0].Rows)[0] != statements(r[2].Rows)[0] || statements(r[0].Rows)[1] == statements(r[2].Rows)[1] {
		t.Errorf("P1905: %q, %v and then %v", r[3].Text, statements(r[0].Rows), statements(r[2].Rows))
	}
	if r[0].Rows[3] != r[2].Rows[3] || r[0].Rows[3].N != 0 {
		t.Errorf("P12: %v and then %v", r[0].Rows[3], r[2].Rows[3])
	}
}

// TestTenthExample: two ways to one text have the same rows.
func TestTenthExample(t *testing.T) {
	d := tenDesk(t, opens("a", "1;"), opens("b", "2;"), edits(0, "a", 2, 0, "2;"), edits(0, "b", 0, 0, "1;"))
	r := d.Do(list(asks(api.ATree, 0, "a"), asks(api.ATree, 0, "b")))
	if len(r[0].Rows) == 0 || !slices.Equal(bare(r[0].Rows), bare(r[1].Rows)) {
		t.Errorf("P13: %v and %v", r[0].Rows, r[1].Rows)
	}
}

// TestNew is P1901.
func TestNew(t *testing.T) {
	e := compiled(t, ten)
	for workers := 1; workers <= api.MaxWorkers; workers++ {
		d := laid(t, e, workers)
		if l := d.Docs(); len(l) != 0 {
			t.Errorf("P1901: %q", l)
		}
		does(t, d, list(ask(api.AText), opens("d", "1;"), ask(api.AText)), "doc", "0", "0 1;")
	}
	for _, workers := range []int{0, -1, api.MaxWorkers + 1, 1 << 40, -1 << 63, 1<<63 - 1} {
		if d, err := desk.New(e, workers); d != nil || err != api.ErrArg {
			t.Errorf("P1901: %v with %d workers", err, workers)
		}
	}
}

// TestDesksApart is P3: desks of one engine do not see one another.
func TestDesksApart(t *testing.T) {
	e := compiled(t, ten)
	var desks []*desk.Desk
	for i := range 5 {
		d := laid(t, e, 1+i)
		does(t, d, list(opens("d", fmt.Sprint(i, ";")), edit(0, 0, "7")), "0", "1")
		desks = append(desks, d)
	}
	desks[2].Close()
	for i, d := range desks {
		if i == 2 {
			does(t, d, list(ask(api.AText)), "shut")
			continue
		}
		does(t, d, list(ask(api.AText), asks(api.AText, 1, "d")), fmt.Sprintf("1 7%d;", i), fmt.Sprintf("0 %d;", i))
	}
}
