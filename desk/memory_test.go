package desk_test

import (
	"math/rand"
	"reflect"
	"runtime"
	"slices"
	"strings"
	"testing"
	"unsafe"
	"weak"

	"graft/api"
	"graft/desk"
)

// roomy is a list's copy with spare room behind it, in which something stands.
func roomy[T any](l []T, spare T) []T {
	return append(slices.Clone(l), spare, spare, spare)[:len(l)]
}

// whole is a list with all its room.
func whole[T any](l []T) []T { return l[:cap(l)] }

// spoil writes over a list with all its room, and appends to it.
func spoil[T any](l []T, with T) {
	for i := range whole(l) {
		whole(l)[i] = with
	}
	_ = append(l, with, with, with)
}

// roomyActs is a copy of acts; they and their bytes have spare room.
func roomyActs(acts []api.Act) []api.Act {
	out := roomy(acts, ask(77))
	for i, a := range out {
		out[i].Ins = roomy(a.Ins, 'r')
	}
	return out
}

// image is a copy of all that acts hold, spare room too.
func image(acts []api.Act) []api.Act {
	out := slices.Clone(whole(acts))
	for i, a := range out {
		out[i].Ins = slices.Clone(whole(a.Ins))
	}
	return out
}

// spoilActs writes over acts and their bytes.
func spoilActs(acts []api.Act) {
	for _, a := range acts {
		spoil(a.Ins, 'z')
	}
	spoil(acts, edits(1, "spoilt", 1, 1, "spoilt"))
}

// spoilReplies writes over replies and all that they hold.
func spoilReplies(replies []api.Reply) {
	for _, r := range replies {
		spoil(r.Text, 'z')
		spoil(r.Rows, api.Row{Kind: 99, Id: -7})
		spoil(r.Spans, api.Span{From: -1, To: -2})
	}
	spoil(replies, api.Reply{Err: 77, Version: 77})
}

// copied is a copy of replies and all that they hold.
func copied(replies []api.Reply) []api.Reply {
	out := slices.Clone(replies)
	for i, r := range out {
		out[i].Text, out[i].Rows, out[i].Spans = slices.Clone(r.Text), slices.Clone(r.Rows), slices.Clone(r.Spans)
	}
	return out
}

// TestActsStay is P2: acts and their bytes stay as they are, their spare room too, whether they are done or refused.
func TestActsStay(t *testing.T) {
	r := rand.New(rand.NewSource(1921))
	for _, l := range languages() {
		d := laid(t, compiled(t, l.spec), 4)
		for range 30 {
			w := newDrawer(r, l)
			w.long = w.long[:99]
			acts := roomyActs(w.acts(60))
			before := image(acts)
			d.Do(acts)
			if !reflect.DeepEqual(image(acts), before) {
				t.Fatal("P2: Do has changed acts")
			}
		}
		many := roomyActs(slices.Repeat(list(ask(api.AText)), api.MaxActs+1))
		before := image(many)
		d.Do(many)
		d.Close()
		d.Do(many)
		if !reflect.DeepEqual(image(many), before) {
			t.Fatal("P2: Do has changed acts")
		}
	}
}

// TestAnswersAreOwn is P2 and P1908: acts that were handed in are written over behind the call, and so is what was answered; a desk at which this is done answers as one at which it is not, for ever.
func TestAnswersAreOwn(t *testing.T) {
	r := rand.New(rand.NewSource(1922))
	for _, l := range languages() {
		e := compiled(t, l.spec)
		for range 10 {
			w := newDrawer(r, l)
			w.long = nil
			a, b := laid(t, e, 3), laid(t, e, 3)
			for range 5 {
				acts := w.acts(50)
				mine := roomyActs(acts)
				got := a.Do(mine)
				spoilActs(mine)
				wantSame(t, acts, b.Do(acts), got)
				spoilReplies(got)
				spoil(a.Docs(), "spoilt")
			}
			wantSame(t, nil, everything(b), everything(a))
			if !slices.Equal(a.Docs(), b.Docs()) {
				t.Fatalf("P2: %q, not %q", a.Docs(), b.Docs())
			}
		}
	}
}

// TestRepliesApart is P2: no two lists of one answer share memory, nor do those of two answers: one after the other is written over, and the others stay.
func TestRepliesApart(t *testing.T) {
	d := tenDesk(t, opens("d", "1 2;;3;#;"), opens("e", "1;;"))
	acts := list(ask(api.AText), ask(api.AText), asks(api.AText, 1, "d"), ask(api.ATree), ask(api.ATree), asks(api.ATree, 1, "d"), ask(api.AErrors), ask(api.AErrors), asks(api.AErrors, 1, "d"), asks(api.AText, 0, "e"), asks(api.ATree, 0, "e"), asks(api.AErrors, 0, "e"))
	first := d.Do(acts)
	want := copied(first)
	second := d.Do(acts)
	for i := range first {
		spoilReplies(first[i : i+1 : i+1])
		wantSame(t, acts, want[i+1:], first[i+1:])
		wantSame(t, acts, want, second)
		for k := i + 1; k < len(first); k++ {
			if !slices.Equal(first[k].Rows, want[k].Rows) {
				t.Fatalf("P2: the Ids of reply %d have changed", k)
			}
		}
	}
	wantSame(t, acts, want, d.Do(acts))
	one, two := d.Docs(), d.Docs()
	spoil(one, "spoilt")
	if !slices.Equal(two, []string{"d", "e"}) {
		t.Errorf("P2: %q", two)
	}
}

// TestRefusalsApart is P2 of replies to acts of which none was done.
func TestRefusalsApart(t *testing.T) {
	d := tenDesk(t)
	acts := slices.Repeat(list(ask(api.AText)), api.MaxActs+1)
	for _, want := range []api.Errno{api.ErrLong, api.ErrShut} {
		one, two := d.Do(acts), d.Do(acts)
		spoilReplies(one)
		for _, r := range slices.Concat(two, d.Do(acts)) {
			if r.Err != want {
				t.Fatalf("P2: %v, not %v", r.Err, want)
			}
		}
		d.Close()
	}
}

// TestNotKept is P2: nothing that was handed in is kept, neither acts nor their bytes nor the names' own memory; nor is what was answered.
func TestNotKept(t *testing.T) {
	d := tenDesk(t)
	var parts []weak.Pointer[byte]
	var rows []weak.Pointer[api.Act]
	var told []weak.Pointer[api.Row]
	func() {
		for i := range 5 {
			name := strings.Repeat(string(rune('a'+i)), api.MaxName)
			text := []byte(strings.Repeat("1;", 100))
			more := []byte(strings.Repeat("2;", 100))
			third := []byte(strings.Repeat("3;", 100))
			acts := list(api.Act{Kind: api.AOpen, Doc: name, Ins: text}, api.Act{Kind: api.AEdit, Doc: name, Ins: more}, batches(0, name, 1), api.Act{Kind: api.AEdit, Doc: name, Ins: third}, asks(api.ATree, 0, name), asks(api.AText, 0, name))
			got := d.Do(acts)
			parts = append(parts, weak.Make(&text[0]), weak.Make(&more[0]), weak.Make(&third[0]), weak.Make(unsafe.StringData(name)), weak.Make(&got[5].Text[0]))
			rows = append(rows, weak.Make(&acts[0]))
			told = append(told, weak.Make(&got[4].Rows[0]))
		}
	}()
	for range 3 {
		runtime.GC()
	}
	for i, p := range parts {
		if p.Value() != nil {
			t.Errorf("P2: part %d of document %d is kept", i%5, i/5)
		}
	}
	for i := range rows {
		if rows[i].Value() != nil || told[i].Value() != nil {
			t.Errorf("P2: the acts or the rows of document %d are kept", i)
		}
	}
	if len(d.Docs()) != 5 {
		t.Errorf("P1904: %q", d.Docs())
	}
}

// TestNamesAreOwn: the names that Docs tells are neither the acts' memory nor one another's.
func TestNamesAreOwn(t *testing.T) {
	d := tenDesk(t)
	name := strings.Repeat("n", 40)
	d.Do(list(opens(name, "")))
	one, two := d.Docs()[0], d.Docs()[0]
	at := func(s string) *byte { return unsafe.StringData(s) }
	if at(one) == at(name) || at(two) == at(name) || at(one) == at(two) {
		t.Error("P2: names share memory")
	}
}

// TestGone: of a document that is closed nothing is kept, nor of one at a desk that is closed.
func TestGone(t *testing.T) {
	for _, do := range []func(d *desk.Desk){
		func(d *desk.Desk) { d.Do(list(closes("d"))) },
		func(d *desk.Desk) { d.Close() },
	} {
		d := tenDesk(t)
		text := strings.Repeat("1;", api.MaxText/4)
		before := heap()
		d.Do(list(opens("d", text)))
		there := heap()
		do(d)
		if gone := heap(); there < before+1<<20 || gone > before+1<<20 {
			t.Errorf("P1902: %d bytes, then %d, and at last %d", before, there, gone)
		}
		d.Docs()
	}
}

// heap is how many bytes are in use.
func heap() uint64 {
	var m runtime.MemStats
	runtime.GC()
	runtime.GC()
	runtime.ReadMemStats(&m)
	return m.HeapAlloc
}

// TestNilAndEmpty is P2: nil and empty lists are the same.
func TestNilAndEmpty(t *testing.T) {
	for _, ins := range [][]byte{nil, {}} {
		d := tenDesk(t)
		does(t, d, list(api.Act{Kind: api.AOpen, Doc: "d", Ins: ins}, ask(api.AText), api.Act{Kind: api.AEdit, Doc: "d", Ins: ins}, batch(1), api.Act{Kind: api.AEdit, Doc: "d", Ins: ins}, ask(api.AText)), "0", "0 ", "1", "2", "2", "2 ")
	}
	d := tenDesk(t)
	if len(d.Do(nil)) != 0 || len(d.Do([]api.Act{})) != 0 || len(d.Docs()) != 0 {
		t.Error("P1902: something is told of nothing")
	}
}
