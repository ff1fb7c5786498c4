package desk_test

import (
	"math"
	"math/rand"
	"strings"
	"testing"

	"graft/api"
)

// TestUndo is P1902 and P1907: undo and redo up to the first and the last, and one more of each.
func TestUndo(t *testing.T) {
	d := tenDesk(t, opens("d", "1;"))
	undo, redo := ask(api.AUndo), ask(api.ARedo)
	does(t, d, list(undo, redo), "undo", "undo")
	does(t, d, list(edit(0, 0, "2"), edit(0, 0, "3"), edit(0, 0, "4"), redo), "1", "2", "3", "undo")
	does(t, d, list(undo, undo, undo, undo, undo, ask(api.AText)), "2", "1", "0", "undo", "undo", "0 1;")
	does(t, d, list(redo, redo, redo, redo, ask(api.AText)), "1", "2", "3", "undo", "3 4321;")
	does(t, d, list(undo, undo, redo, undo, undo, redo, redo, redo, redo), "2", "1", "2", "1", "0", "1", "2", "3", "undo")
	// A new edit in the midst: nothing can be redone, and what was left is still a version.
	does(t, d, list(undo, undo, edit(0, 0, "5"), redo, ask(api.AText), undo, undo, undo, redo, redo, redo), "2", "1", "4", "undo", "4 521;", "1", "0", "undo", "1", "4", "undo")
	does(t, d, list(jump(3), ask(api.AText), undo, redo), "3", "3 4321;", "4", "3")
}

// TestUndoGoto: AGoto is a step like an edit, also to where the session stands already.
func TestUndoGoto(t *testing.T) {
	d := tenDesk(t, opens("d", "1;"), edit(0, 0, "2"), edit(0, 0, "3"))
	undo, redo := ask(api.AUndo), ask(api.ARedo)
	does(t, d, list(jump(0), undo, redo, undo, undo, redo), "0", "2", "0", "2", "1", "2")
	does(t, d, list(jump(2), redo, jump(2), jump(2), undo, undo, undo, undo, undo, undo), "2", "undo", "2", "2", "2", "2", "2", "1", "0", "undo")
	does(t, d, list(redo, redo, redo, redo, redo, redo), "1", "2", "2", "2", "2", "undo")
	does(t, d, list(undo, jump(1), redo, undo, undo), "2", "1", "undo", "2", "2")
	for _, version := range []int{-1, 3, 4, 4096, math.MinInt, math.MaxInt, 1 << 32, -1 << 32} {
		does(t, d, list(jump(version), redo, undo), "version", "2", "2") // a refused one clears nothing
	}
	// Versions that other sessions made can be gone to as well.
	does(t, d, list(edits(7, "d", 0, 1, "8"), jump(3), ask(api.AText), undo), "3", "3", "3 8;", "2")
}

// TestUndoBatch: a batch is one step.
func TestUndoBatch(t *testing.T) {
	d := tenDesk(t, opens("d", "1;"))
	undo, redo := ask(api.AUndo), ask(api.ARedo)
	does(t, d, list(batch(2), edit(0, 0, "2"), edit(0, 0, "3"), batch(1), edit(0, 0, "4"), undo, undo, undo, redo, redo, redo), "1", "1", "1", "2", "2", "1", "0", "undo", "1", "2", "undo")
	does(t, d, list(undo, batch(1), edit(9, 0, ""), redo, undo, batch(0), redo, undo, batch(1), edit(0, 0, "5"), redo), "1", "batch", "range", "2", "1", "batch", "2", "1", "3", "3", "undo")
}

// TestUndoApart: each session has steps of its own; what others do at the document changes none of them.
func TestUndoApart(t *testing.T) {
	d := tenDesk(t, opens("d", "1;"), opens("e", "1;"))
	does(t, d, list(edits(0, "d", 0, 0, "2"), edits(1, "d", 0, 0, "3"), edits(0, "e", 0, 0, "4"), edits(0, "d", 0, 0, "5"), asks(api.AUndo, 1, "d"), asks(api.AUndo, 1, "d"), asks(api.AText, 0, "d")), "1", "2", "1", "3", "0", "undo", "3 521;")
	does(t, d, list(asks(api.AUndo, 0, "d"), jumps(1, "d", 3), asks(api.AUndo, 0, "e"), edits(1, "d", 0, 0, "6"), asks(api.ARedo, 0, "d"), asks(api.ARedo, 1, "d"), asks(api.AUndo, 2, "d"), asks(api.ARedo, 2, "e")), "1", "3", "0", "4", "3", "undo", "undo", "undo")
	does(t, d, list(asks(api.AUndo, 1, "d"), asks(api.AUndo, 1, "d"), asks(api.AText, 1, "d"), asks(api.ARedo, 0, "e"), asks(api.AText, 0, "e")), "3", "0", "0 1;", "1", "1 41;")
}

// TestUndoAsked: what is only asked is no step.
func TestUndoAsked(t *testing.T) {
	d := tenDesk(t, opens("d", "1;"), edit(0, 0, "2"), ask(api.AUndo))
	for _, a := range list(ask(api.AText), ask(api.ATree), ask(api.AErrors), edit(9, 0, ""), edit(-1, 0, ""), jump(9), opens("d", ""), closes("e"), ask(0), batch(0), edit(0, 0, strings.Repeat("1", api.MaxText))) {
		d.Do(list(a))
		does(t, d, list(ask(api.AUndo), ask(api.ARedo), ask(api.ARedo), ask(api.AUndo)), "undo", "1", "undo", "0")
	}
}

// TestUndoDrawn is P1907 by its words: behind a step AUndo answers where the session stood, and ARedo then where it went, whatever others ask between; and all steps can be gone back one by one.
func TestUndoDrawn(t *testing.T) {
	r := rand.New(rand.NewSource(1908))
	for range 60 {
		d := tenDesk(t, opens("d", "1;"), opens("e", ""))
		var trail [4][]int // where the sessions stood, and stand
		for i := range trail {
			trail[i] = []int{0}
		}
		noise := func() { // others' acts; the document stays there
			session := 4 + r.Intn(12)
			d.Do(list(some(r, edits(session, "d", 0, 0, "9"), asks(api.AUndo, session, "d"), asks(api.ARedo, session, "d"), jumps(session, "d", 1), asks(api.AText, session, "d"), batches(session, "d", 1), closes("e"), opens("e", "2"), edits(0, "e", 0, 0, "3"))))
		}
		for range 40 {
			session := r.Intn(4)
			stood := trail[session][len(trail[session])-1]
			acts := some(r, list(edits(session, "d", 0, r.Intn(2), "7")), list(batches(session, "d", 2), edits(session, "d", 0, 0, "1"), edits(session, "d", 1, 0, "2")), list(jumps(session, "d", some(r, trail[session]...))))
			went := d.Do(acts)[0]
			if went.Err != api.OK {
				t.Fatal(went.Err)
			}
			trail[session] = append(trail[session], went.Version)
			noise()
			wantStep(t, d.Do(list(asks(api.AUndo, session, "d")))[0], stood)
			noise()
			wantStep(t, d.Do(list(asks(api.ARedo, session, "d")))[0], went.Version)
		}
		for session, steps := range trail {
			for i := len(steps) - 2; i >= 0; i-- {
				noise()
				wantStep(t, d.Do(list(asks(api.AUndo, session, "d")))[0], steps[i])
			}
			for _, version := range steps[1:] {
				noise()
				wantStep(t, d.Do(list(asks(api.ARedo, session, "d")))[0], version)
			}
		}
	}
}

func wantStep(t testing.TB, r api.Reply, version int) {
	t.Helper()
	if r.Err != api.OK || r.Version != version {
		t.Fatalf("P1907: %v %d, not %d", r.Err, r.Version, version)
	}
}

// TestUndoLong: there is no end of the steps that can be gone back.
func TestUndoLong(t *testing.T) {
	d := tenDesk(t, opens("d", "1;"), edit(0, 0, "2"))
	const rounds = 20
	var acts []api.Act
	for i := range api.MaxActs {
		acts = append(acts, jump(i%2))
	}
	for range rounds {
		d.Do(acts)
	}
	back := make([]api.Act, api.MaxActs)
	for i := range back {
		back[i] = ask(api.AUndo)
	}
	for range rounds {
		for i, r := range d.Do(back) {
			wantStep(t, r, i%2)
		}
	}
	does(t, d, list(ask(api.AUndo), ask(api.AUndo), ask(api.ARedo), ask(api.ARedo), ask(api.ARedo)), "0", "undo", "1", "0", "1")
}
