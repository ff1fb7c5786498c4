package desk_test

import (
	"fmt"
	"math"
	"math/rand"
	"slices"
	"strings"
	"testing"

	"graft/api"
)

// TestBatchCount is P1903: N may not be below 1, nor above what stands behind the batch. The acts behind it are then done by themselves.
func TestBatchCount(t *testing.T) {
	two := list(edit(0, 0, "x"), edit(1, 0, "y"))
	for _, n := range []int{0, -1, -2, math.MinInt, 3, 4, 1 << 32, 1<<32 + 2, math.MaxInt, math.MaxInt - 1} {
		d := tenDesk(t, opens("d", "1;"))
		does(t, d, append(list(batch(n)), append(two, ask(api.AUndo), ask(api.AText))...), "batch", "1", "2", "1", "1 x1;")
		does(t, d, append(list(batch(n)), two...), "batch", "3", "4")
	}
	for n := 1; n <= 2; n++ {
		d := tenDesk(t, opens("d", "1;"))
		want := [][]string{{"1", "1", "2"}, {"1", "1", "1"}}[n-1]
		does(t, d, append(list(batch(n)), two...), want...)
		does(t, d, list(ask(api.AText), ask(api.AUndo), ask(api.AText)), want[2]+" xy1;", fmt.Sprint(2-n), []string{"1 x1;", "0 1;"}[n-1])
	}
	d := tenDesk(t, opens("d", "1;"))
	does(t, d, list(batch(1)), "batch")
	does(t, d, list(edit(0, 0, "2"), batch(1)), "1", "batch")
	does(t, d, list(batch(0)), "batch")
	most := append(list(batch(api.MaxActs-1)), slices.Repeat(list(edit(0, 0, "")), api.MaxActs-1)...)
	does(t, d, most, slices.Repeat([]string{"2"}, api.MaxActs)...)
	does(t, d, list(ask(api.AText), jump(3)), "2 21;", "version")
}

// TestBatchOthers: an act of the N that is no AEdit, or one of another session or document, at each place of them.
func TestBatchOthers(t *testing.T) {
	for at := 1; at <= 3; at++ {
		for _, other := range list(
			ask(api.AText), ask(api.ATree), ask(api.AErrors), ask(api.AUndo), ask(api.ARedo), jump(0), ask(0), ask(11), opens("d", ""), opens("f", ""), closes("none"), batch(0), batch(9),
			edits(1, "d", 0, 0, "9"), edits(16, "d", 0, 0, "9"), edits(0, "e", 0, 0, "9"), edits(0, "none", 0, 0, "9"), edits(0, "d\x00", 0, 0, "9"),
		) {
			d := tenDesk(t, opens("d", "1;"), opens("e", "1;"))
			acts := list(batch(3), edit(0, 0, "2"), edit(0, 0, "2"), edit(0, 0, "2"))
			acts[at] = other
			got := d.Do(acts)
			if got[0].Err != api.ErrBatch {
				t.Errorf("P1903: %+v at %d: %v", other, at, got[0].Err)
			}
			p := &plain{e: compiled(t, ten)}
			p.do(list(opens("d", "1;"), opens("e", "1;")))
			for i, a := range acts[1:] { // each by itself
				if want := p.do(list(a)); !sameReply(got[1+i], want[0].Reply) {
					t.Errorf("P1903: %+v at %d: act %d: %+v, not %+v", other, at, 1+i, got[1+i], want[0].Reply)
				}
			}
		}
	}
}

// TestBatchClosed: a document is closed among the N acts; the batch's own error is that of a batch, and what stands behind finds no document.
func TestBatchClosed(t *testing.T) {
	d := tenDesk(t, opens("d", "1;"))
	does(t, d, list(batch(3), edit(0, 0, "2"), closes("d"), edit(0, 0, "3"), opens("d", "4;"), batch(1), edit(0, 0, "5"), ask(api.AText)), "batch", "1", "0", "doc", "0", "1", "1", "1 54;")
	does(t, d, list(batch(2), closes("d"), opens("d", "6;"), edit(0, 0, "7"), ask(api.AText)), "batch", "0", "0", "1", "1 76;")
}

// TestBatchWithin: of a batch within a batch the outer one is refused, and the inner one is done.
func TestBatchWithin(t *testing.T) {
	d := tenDesk(t, opens("d", "1;"))
	does(t, d, list(batch(3), batch(2), edit(0, 0, "2"), edit(0, 0, "3"), ask(api.AText), ask(api.AUndo), ask(api.AText)), "batch", "1", "1", "1", "1 321;", "0", "0 1;")
	does(t, d, list(batch(3), edit(0, 0, "2"), batch(1), edit(0, 0, "3"), ask(api.AText), ask(api.AUndo), ask(api.AUndo)), "batch", "2", "3", "3", "3 321;", "2", "0")
	does(t, d, list(batch(1), batch(1), batch(1), edit(0, 0, "4"), ask(api.AText)), "batch", "batch", "4", "4", "4 41;")
	does(t, d, list(batch(1), edit(0, 0, "5"), batch(1), edit(0, 0, "6"), ask(api.AText)), "5", "5", "6", "6", "6 6541;")
}

// TestBatchAhead: the errors ahead of ErrBatch; the acts behind are then done by themselves.
func TestBatchAhead(t *testing.T) {
	d := tenDesk(t, opens("d", "1;"))
	does(t, d, list(batches(16, "d", 1), edit(0, 0, "2"), batches(0, "none", 1), edit(0, 0, "3"), batches(-1, "none", 0), batches(16, "d", 1), edits(16, "d", 0, 0, ""), batches(0, "none", 1), edits(0, "none", 0, 0, ""), ask(api.AText)),
		"session", "1", "doc", "2", "session", "session", "session", "doc", "doc", "2 321;")
}

// TestBatchRefused: the first, a middle and the last edit of a batch is refused, with each error; all others are answered ErrBatch, and nothing is done.
func TestBatchRefused(t *testing.T) {
	long := strings.Repeat("1", api.MaxText)
	for at := 1; at <= 4; at++ {
		for _, x := range []struct {
			bad  api.Act
			want string
		}{
			{edit(-1, 0, ""), "range"}, {edit(0, -1, ""), "range"}, {edit(99, 0, ""), "range"}, {edit(0, 99, ""), "range"}, {edit(math.MaxInt, math.MaxInt, ""), "range"}, {edit(1, math.MaxInt, ""), "range"}, {edit(math.MinInt, 0, ""), "range"}, {edit(math.MinInt, math.MaxInt, ""), "range"}, {edit(0, math.MinInt, ""), "range"},
			{edit(3, -1, ""), "range"}, {edit(0, 99, long+long), "range"}, {edit(0, 0, long), "long"}, {edit(1, 0, long+long), "long"}, {edit(0, 1, long+"1"), "long"},
		} {
			d := tenDesk(t, opens("d", "1;"), edit(0, 0, "2"), edit(0, 0, "3"), ask(api.AUndo), opens("e", ""))
			acts := list(batch(4), edit(0, 0, "4"), edit(0, 1, ""), edit(1, 0, "5"), edit(2, 1, "6"))
			acts[at] = x.bad
			want := words("batch|batch|batch|batch|batch")
			want[at] = x.want
			before := everything(d)
			does(t, d, acts, want...)
			wantSame(t, nil, before, everything(d))
			does(t, d, append(append(list(edits(0, "e", 0, 0, "7")), acts...), ask(api.AText), jump(3), ask(api.ARedo), asks(api.AText, 0, "e")), append(append(words("1"), want...), "1 21;", "version", "2", "1 7")...)
		}
	}
	d := tenDesk(t, opens("d", "1;"))
	does(t, d, list(batch(3), edit(0, 0, "2"), edit(9, 0, ""), edit(-1, 0, ""), ask(api.AText)), "batch", "batch", "range", "batch", "0 1;")
	does(t, d, list(batch(2), edit(9, 0, ""), edit(0, 0, long), ask(api.AText)), "batch", "range", "batch", "0 1;")
}

// TestBatchSoFar: each edit is held against the text as the ones ahead of it have left it.
func TestBatchSoFar(t *testing.T) {
	most := strings.Repeat("1", api.MaxText)
	d := tenDesk(t, opens("d", "1;"), opens("e", most))
	does(t, d, list(batch(2), edit(2, 0, "23"), edit(4, 0, ";"), ask(api.AText), ask(api.AUndo)), "1", "1", "1", "1 1;23;", "0")
	does(t, d, list(batch(2), edit(2, 0, "23"), edit(5, 0, ";")), "batch", "batch", "range")
	does(t, d, list(batch(2), edit(0, 2, ""), edit(1, 0, ";")), "batch", "batch", "range")
	does(t, d, list(batch(2), edit(0, 2, ""), edit(0, 1, ";")), "batch", "batch", "range")
	does(t, d, list(batch(2), edit(0, 2, ""), edit(0, 0, "4"), ask(api.AText)), "2", "2", "2", "2 4")
	at := func(at, del int, ins string) api.Act { return edits(0, "e", at, del, ins) }
	does(t, d, list(batches(0, "e", 2), at(0, 0, "2"), at(0, 1, "")), "batch", "long", "batch") // it would fit at last
	does(t, d, list(batches(0, "e", 2), at(7, 1, ""), at(9, 0, "23")), "batch", "batch", "long")
	does(t, d, list(batches(0, "e", 3), at(7, 1, ""), at(9, 0, "2"), at(3, 0, "4")), "batch", "batch", "batch", "long")
	does(t, d, list(batches(0, "e", 3), at(7, 1, ""), at(99, 0, "2"), at(0, api.MaxText, "3;"), asks(api.AText, 0, "e")), "1", "1", "1", "1", "1 3;")
	does(t, d, list(batches(0, "e", 2), at(0, 2, most), at(api.MaxText, 0, ""), at(0, api.MaxText, ""), asks(api.AText, 0, "e")), "2", "2", "2", "3", "3 ")
}

// TestBatchStands: a batch is of the version at which its session stands, and one step of undo.
func TestBatchStands(t *testing.T) {
	d := tenDesk(t, opens("d", "1;"), edit(0, 0, "2"), edit(0, 0, "3"))
	does(t, d, list(batches(1, "d", 1), edits(1, "d", 0, 1, "9"), asks(api.AText, 1, "d"), ask(api.AText)), "3", "3", "3 9;", "2 321;")
	does(t, d, list(ask(api.AUndo), ask(api.AUndo), batch(2), edit(0, 0, "4"), edit(0, 0, "5"), ask(api.AText), ask(api.ARedo), ask(api.AUndo), ask(api.AText), ask(api.AUndo), ask(api.ARedo)), "1", "0", "4", "4", "4", "4 541;", "undo", "0", "0 1;", "undo", "4")
	does(t, d, list(jump(3), batch(1), edit(1, 1, ""), ask(api.AText), ask(api.AUndo), ask(api.AUndo)), "3", "5", "5", "5 9", "3", "4")
}

// TestBatchNothing: a batch that changes nothing, or comes back to the text that it began with, makes a version all the same.
func TestBatchNothing(t *testing.T) {
	for _, text := range []string{"", "1;", "1;1;", "1 2;", "1"} {
		n := len(text)
		for _, acts := range [][]api.Act{
			{edit(0, 0, "")},
			{edit(n, 0, "")},
			{edit(0, n, text)},
			{edit(0, 0, "7;"), edit(0, 2, "")},
			{edit(0, n, ""), edit(0, 0, text)},
			{edit(0, 0, "77"), edit(n+2, 0, "88"), edit(0, 2, ""), edit(n, 2, "")},
		} {
			d := tenDesk(t, opens("d", text))
			all := append(list(ask(api.ATree), batch(len(acts))), acts...)
			got := d.Do(append(all, ask(api.ATree), ask(api.AText), ask(api.AUndo)))
			last := len(got) - 1
			for i := 1; i < last; i++ {
				if got[i].Err != api.OK || got[i].Version != 1 {
					t.Errorf("P1903: %q: act %d: %v %d", text, i, got[i].Err, got[i].Version)
				}
			}
			if string(got[last-1].Text) != text || got[last].Version != 0 {
				t.Errorf("P1903: %q becomes %q", text, got[last-1].Text)
			}
			if now, want := kept(got[0].Rows, got[last-2].Rows), keptBy(t, text, n, 0, ""); now != want {
				t.Errorf("P1903: %q: %d nodes stay, not %d", text, now, want)
			}
		}
	}
}

// TestBatchOverlaps: texts whose common front and end would overlap: the front goes first.
func TestBatchOverlaps(t *testing.T) {
	for _, x := range []struct {
		old, now string
		at, del  int
		ins      string
	}{
		{"aa", "a", 1, 1, ""}, {"a", "aa", 1, 0, "a"}, {"1;1;1;", "1;1;", 4, 2, ""}, {"1;1;", "1;1;1;", 4, 0, "1;"}, {"1;2;1;", "1;1;", 2, 2, ""},
		{"1;1;", "1;2;1;", 2, 0, "2;"}, {"1+1+1;", "1+1;", 3, 2, ""}, {"", "1;", 0, 0, "1;"}, {"1;", "", 0, 2, ""}, {"1;2;3;", "4;5;6;", 0, 5, "4;5;6"}, {"12;", "13;", 1, 1, "3"}, {"1;22;22;", "1;22;", 5, 3, ""},
	} {
		d := tenDesk(t, opens("d", x.old))
		got := d.Do(list(ask(api.ATree), batch(2), edit(0, len(x.old), ""), edit(0, 0, x.now), ask(api.ATree), ask(api.AText)))
		if string(got[5].Text) != x.now || kept(got[0].Rows, got[4].Rows) != keptBy(t, x.old, x.at, x.del, x.ins) {
			t.Errorf("P1903: %q to %q: %q, and %d nodes stay", x.old, x.now, got[5].Text, kept(got[0].Rows, got[4].Rows))
		}
		if at, del, ins := oneEdit(x.old, x.now); at != x.at || del != x.del || ins != x.ins {
			t.Errorf("%q to %q: the words say %d %d %q", x.old, x.now, at, del, ins)
		}
	}
}

// TestBatchDrawn holds batches of many edits against the words: texts of few bytes, so that fronts and ends are alike, and edits that touch one another and lie apart. By the nodes that stay it is seen which edit was asked of engine.
func TestBatchDrawn(t *testing.T) {
	t.Parallel()
	r := rand.New(rand.NewSource(1903))
	for i, bits := range [][]string{{"1;", "1;", "2;"}, {"1", ";"}, {"1", "+", ";", " "}, {"a", "1;"}} {
		both := newTwins(t, compiled(t, ten), 1+3*i)
		both.do(t, list(opens("d", "1;1;1;2;1;")))
		for range 250 {
			size := len(both.p.docs[0].texts[both.p.docs[0].stands[0].version])
			var acts []api.Act
			for range 1 + r.Intn(5) {
				at := r.Intn(size + 1)
				a := edit(at, min(r.Intn(4), size-at), strings.Join(slices.Repeat([]string{some(r, bits...)}, r.Intn(3)), ""))
				acts, size = append(acts, a), size-a.Del+len(a.Ins)
			}
			acts = append(append(list(ask(api.ATree), batch(len(acts))), acts...), ask(api.ATree), ask(api.AText))
			if size > 40 {
				acts = append(acts, jump(0))
			}
			both.do(t, acts)
		}
	}
}

// TestBatchLong: as many edits as may be, of the longest texts.
func TestBatchLong(t *testing.T) {
	t.Parallel()
	r := rand.New(rand.NewSource(1913))
	text := strings.Repeat("1234567;", api.MaxText/8)
	d := tenDesk(t, opens("d", text))
	acts := list(batch(api.MaxActs - 2))
	for range api.MaxActs - 2 {
		a := edit(r.Intn(len(text)-8), 8, "7654321;"[:r.Intn(9)])
		acts, text = append(acts, a), text[:a.At]+string(a.Ins)+text[a.At+a.Del:]
	}
	got := d.Do(append(acts, ask(api.AText)))
	for i, x := range got {
		if x.Err != api.OK || x.Version != 1 {
			t.Fatalf("P1903: act %d: %v", i, x.Err)
		}
	}
	if string(got[len(got)-1].Text) != text {
		t.Error("P1903: another text")
	}
}

// TestBatchFull: the one edit is refused by engine.Edit; the batch is answered with that error. What lies between the two texts is not looked at by engine.
func TestBatchFull(t *testing.T) {
	t.Parallel()
	d := fulls(t)
	before := everything(d)
	does(t, d, list(batches(0, "full", 2), edits(0, "full", 0, 0, "2"), edits(0, "full", 0, 1, ""), batches(0, "full", 1), edits(0, "full", 9, 0, ""), asks(api.AText, 0, "full")), "full", "batch", "batch", "batch", "range", "0 1;")
	wantSame(t, nil, before, everything(d))
	text := filled(api.MaxRows)
	g := laid(t, compiled(t, great), 3)
	at := func(at, del int, ins string) api.Act { return edits(0, "a", at, del, ins) }
	does(t, g, list(opens("a", text), batches(0, "a", 2), at(len(text), 0, "y"), at(len(text), 0, "z"), asks(api.AUndo, 0, "a"), jumps(0, "a", 1)), "0", "full", "batch", "batch", "undo", "version")
	does(t, g, list(batches(0, "a", 2), at(len(text), 0, "xxxxy"), at(0, len(text), ""), asks(api.AText, 0, "a")), "1", "1", "1", "1 xxxxy")
}
