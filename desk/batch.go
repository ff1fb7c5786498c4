package desk

import (
	"slices"

	"graft/api"
	"graft/relex"
)

// batch does a batch, with the acts behind it if they are in order. It tells how many acts are answered by that.
func (t *task) batch(place int) int {
	row := t.round.acts[place:]
	if !inOrder(row) {
		t.answer(place, api.ErrBatch)
		return 1
	}
	count := 1 + row[0].N
	at, err := t.together(place, row[1:count])
	for i := range count {
		switch {
		case i == at || err == api.OK:
			t.answer(place+i, err)
		default:
			t.answer(place+i, api.ErrBatch)
		}
	}
	return count
}

// inOrder says whether behind the first act, a batch, stand as many edits of its session and document as it says.
func inOrder(row []api.Act) bool {
	b := row[0]
	if b.N < 1 || b.N > len(row)-1 {
		return false
	}
	return !slices.ContainsFunc(row[1:1+b.N], func(a api.Act) bool {
		return a.Kind != api.AEdit || a.Session != b.Session || a.Doc != b.Doc
	})
}

// together does the edits of the batch at a place as one. With an error it tells whose it is: 0 the batch's own, else that of an edit, counted from 1.
func (t *task) together(place int, edits []api.Act) (int, api.Errno) {
	s := t.at(place)
	old, _ := t.Text(s.version)
	d := draft{text: old, size: len(old)}
	for i, a := range edits {
		if err := d.edit(editOf(a)); err != api.OK {
			return i + 1, err
		}
	}
	return 0, t.change(s, between(old, d.whole()))
}

// draft is a text on which edits are done, one behind the other.
type draft struct {
	text []byte   // with all edits but the last
	last api.Edit // one, or several that touch one another put together, so that the text need not be copied for each
	size int      // of the text with all edits
}

// edit does an edit that fits the text so far.
func (d *draft) edit(e api.Edit) api.Errno {
	if e.At < 0 || e.At > d.size || e.Del < 0 || e.Del > d.size-e.At {
		return api.ErrRange
	}
	size := d.size - e.Del + len(e.Ins)
	if size > api.MaxText {
		return api.ErrLong
	}
	one, ok := relex.Compose(d.last, e)
	if !ok {
		d.text, one = d.whole(), e
	}
	d.last, d.size = one, size
	return api.OK
}

// whole is the text with all edits.
func (d *draft) whole() []byte {
	return slices.Concat(d.text[:d.last.At], d.last.Ins, d.text[d.last.At+d.last.Del:])
}

// between is the one edit between two texts: what they have in common at the front, and then at the end, is left away.
func between(old, now []byte) api.Edit {
	at, to, upto := 0, len(old), len(now)
	for at < min(to, upto) && old[at] == now[at] {
		at++
	}
	for min(to, upto) > at && old[to-1] == now[upto-1] {
		to, upto = to-1, upto-1
	}
	return api.Edit{At: at, Del: to - at, Ins: now[at:upto]}
}
