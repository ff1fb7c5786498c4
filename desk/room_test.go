package desk_test

import (
	"fmt"
	"slices"
	"strings"
	"testing"

	"graft/api"
	"graft/desk"
)

// much writes what replies tell in short: the errors' words, or how many bytes, rows and spans.
func much(replies []api.Reply) string {
	var out []string
	for _, r := range replies {
		if r.Err != api.OK {
			out = append(out, r.Err.Error())
		} else {
			out = append(out, fmt.Sprint(len(r.Text)+len(r.Rows)+len(r.Spans)))
		}
	}
	return strings.Join(out, " ")
}

// wantMuch has acts done, and looks at how much is told.
func wantMuch(t testing.TB, d *desk.Desk, acts []api.Act, want string) {
	t.Helper()
	got := d.Do(acts)
	for i, r := range got {
		wantForm(t, acts[i], r)
	}
	if s := much(got); s != want {
		t.Errorf("P1909: %s, not %s", s, want)
	}
}

// all asks for the same of documents of these names, in their order.
func all(kind int, names string) (out []api.Act) {
	for _, name := range names {
		out = append(out, asks(kind, 0, string(name)))
	}
	return out
}

// fill is so many times one number.
func fill(n, count int) string { return strings.Repeat(fmt.Sprint(n, " "), count) }

// TestRoomOfTexts is P1909: texts of MaxPack bytes together are told, and not a byte more; shorter ones behind one that was refused still are.
func TestRoomOfTexts(t *testing.T) {
	t.Parallel()
	const most, count = api.MaxText, api.MaxPack / api.MaxText
	for _, workers := range []int{1, api.MaxWorkers} {
		d := laid(t, compiled(t, ten), workers)
		for name, size := range map[string]int{"a": most, "b": most, "1": 1, "2": most - 1, "3": most - 2, "0": 0} {
			does(t, d, list(opens(name, strings.Repeat("1", size))), "0")
		}
		full := all(api.AText, strings.Repeat("ab", count/2))
		wantMuch(t, d, slices.Concat(full, all(api.AText, "1023a"), list(edits(0, "1", 0, 0, "2"), asks(api.AErrors, 0, "1"), asks(api.ATree, 0, "1"))), fill(most, count)+"full 0 full full full 0 1 3")
		wantMuch(t, d, slices.Concat(all(api.AText, "1"), full[1:]), "2 "+fill(most, count-1)[:len(fill(most, count-1))-1])
		wantMuch(t, d, slices.Concat(list(asks(api.AText, 1, "1")), full, all(api.AText, "a23a0b"), list(asks(api.AText, 1, "1"))), "1 "+fill(most, count-1)+"full full "+fmt.Sprint(most-1)+" full full 0 full full")
		wantMuch(t, d, slices.Concat(full, all(api.AText, "0"), list(asks(99, 0, "a"), asks(api.AText, 16, "a"), asks(api.AText, 0, "none"), asks(api.AText, 0, "a"))), fill(most, count)+"0 arg session doc full") // each Do has the whole room
		wantMuch(t, d, slices.Concat(full[1:], list(asks(api.AUndo, 0, "1")), all(api.AText, "31101")), fill(most, count-1)+"0 "+fmt.Sprint(most-2)+" 1 1 0 full")
	}
}

// TestRoomOfSpans is P1909 of spans: the same, with MaxDoc of them.
func TestRoomOfSpans(t *testing.T) {
	t.Parallel()
	const most, count = api.MaxText, api.MaxDoc / api.MaxText
	d := laid(t, compiled(t, ten), 4)
	for name, size := range map[string]int{"a": most, "1": 1, "2": most - 1, "3": most - 3} {
		does(t, d, list(opens(name, strings.Repeat(";", size))), "0")
	}
	does(t, d, list(opens("0", "1;"), edits(0, "1", 0, 0, " ")), "0", "1") // what is refused tells no version
	full := all(api.AErrors, strings.Repeat("a", count))
	wantMuch(t, d, slices.Concat(full, all(api.AErrors, "1012"), all(api.ATree, "0"), all(api.AText, "01"), list(asks(api.AErrors, 16, "a"), asks(api.AErrors, 0, "none"), asks(api.ATree, -1, "a"), asks(api.ATree, 0, "none"))), fill(most, count)+"full 0 full full full 2 2 session doc session doc")
	wantMuch(t, d, slices.Concat(all(api.AErrors, "1"), full, all(api.AErrors, "a23a01")), "1 "+fill(most, count-1)+"full full "+fmt.Sprint(most-1)+" full full 0 full")
	wantMuch(t, d, slices.Concat(full[1:], all(api.AErrors, "3"), all(api.ATree, "0"), list(opens("e", "")), all(api.ATree, "e"), all(api.ATree, "e"), all(api.AErrors, "10")), fill(most, count-1)+fmt.Sprint(most-3)+" full 0 3 full full 0")
}

// TestRoomOfRows is P1909 of rows, and of rows and spans together.
func TestRoomOfRows(t *testing.T) {
	t.Parallel()
	const most, count = api.MaxRows, api.MaxDoc / api.MaxRows
	d := laid(t, compiled(t, great), 3)
	for name, text := range map[string]string{"a": filled(most), "1": filled(most - 1), "5": filled(most - 5), "y": "y", "0": "", "b": "#"} { // y has 5 rows, the empty text 3, what is broken has 3 and one span
		does(t, d, list(opens(name, text)), "0")
	}
	does(t, d, list(edits(0, "0", 0, 0, "")), "1") // what is refused tells no version
	full := all(api.ATree, strings.Repeat("a", count))
	wantMuch(t, d, slices.Concat(full, all(api.ATree, "0y"), all(api.AErrors, "b0a"), all(api.AText, "yb")), fill(most, count)+"full full full 0 0 1 1")
	wantMuch(t, d, slices.Concat(full[1:], all(api.ATree, "1a0"), all(api.AErrors, "bba")), fill(most, count-1)+fmt.Sprint(most-1)+" full full 1 full 0")
	wantMuch(t, d, slices.Concat(all(api.AErrors, "b"), full, all(api.ATree, "a10"), all(api.AErrors, "bb")), "1 "+fill(most, count-1)+"full full "+fmt.Sprint(most-1)+" full full full")
	wantMuch(t, d, slices.Concat(full[1:], all(api.ATree, "5yya0"), all(api.AErrors, "b0")), fill(most, count-1)+fmt.Sprint(most-5)+" 5 full full full full 0")
	wantMuch(t, d, slices.Concat(full[1:], all(api.ATree, "5a0"), all(api.AErrors, "bbb")), fill(most, count-1)+fmt.Sprint(most-5)+" full 3 1 1 full")
}

// TestRoomChangesNothing: an act that is refused for want of room does nothing, and changes nothing of those behind it; and only what is answered OK counts.
func TestRoomChangesNothing(t *testing.T) {
	t.Parallel()
	const count = api.MaxPack / api.MaxText
	d := tenDesk(t, opens("a", strings.Repeat("1", api.MaxText)), opens("d", "1;"))
	full := all(api.AText, strings.Repeat("a", count))
	refused := slices.Repeat(list(asks(api.AText, 16, "a"), asks(api.AText, 0, "none"), asks(99, 0, "a")), 100)
	acts := slices.Concat(refused, full, list(edit(0, 0, "2"), ask(api.AText), ask(api.AUndo), ask(api.AText), ask(api.ARedo), edits(0, "a", 0, api.MaxText, ""), asks(api.AText, 0, "a"), ask(api.ATree)))
	got := d.Do(acts)
	for i, r := range got {
		wantForm(t, acts[i], r)
	}
	for i, r := range got[300 : 300+count] {
		if r.Err != api.OK || len(r.Text) != api.MaxText {
			t.Fatalf("P1909: text %d: %v", i, r.Err)
		}
	}
	if s := much(got[300+count:]); s != "0 full 0 full 0 0 0 9" {
		t.Errorf("P1909: %s", s)
	}
	does(t, d, list(ask(api.AText), ask(api.AUndo), ask(api.AUndo), asks(api.AText, 0, "a")), "1 21;", "0", "undo", "1 ")
}

// TestRoomOfTheClosed: what documents tell that are closed and opened again within the Do counts like all else, however many they are.
func TestRoomOfTheClosed(t *testing.T) {
	t.Parallel()
	const count = api.MaxPack / api.MaxText
	text := strings.Repeat("1", api.MaxText-1)
	acts := list(opens("0", ""), opens("1", "1"))
	want := "0 0 "
	for range count {
		acts = append(acts, opens("a", text), asks(api.AText, 3, "a"), closes("a"))
		want += fmt.Sprint("0 ", api.MaxText-1, " 0 ")
	}
	// As many bytes are left as there were documents.
	acts = append(acts, opens("a", text), asks(api.AText, 3, "a"), closes("a"), opens("a", text[:count-1]), asks(api.AText, 3, "a"))
	acts = append(acts, all(api.AText, "1101")...)
	wantMuch(t, laid(t, compiled(t, ten), 7), acts, want+fmt.Sprint("0 full 0 0 ", count-1, " 1 full 0 full"))
}
