// Package rope: bytes that are cheap to cut and to join: see the chapter 01-rope.md.
package rope

import (
	"bytes"
	"iter"
	"slices"

	"graft/api"
)

// Rope is a row of bytes. It never changes.
type Rope struct {
	root *part[size]
}

// New makes a rope of bytes.
func New(b []byte) (*Rope, api.Errno) {
	if len(b) > api.MaxRope {
		return nil, api.ErrLong
	}
	return &Rope{build(b)}, api.OK
}

// Len tells how many bytes there are.
func (r *Rope) Len() int { return r.root.tell().bytes }

// At tells the byte at a place.
func (r *Rope) At(i int) (byte, bool) {
	if i < 0 || i >= r.Len() {
		return 0, false
	}
	p, i := find(r.root, i)
	return p.piece[i], true
}

// Cut is the rope of the bytes from .. to-1.
func (r *Rope) Cut(from, to int) (*Rope, api.Errno) {
	if !r.spans(from, to) {
		return nil, api.ErrRange
	}
	return &Rope{cut(r.root, from, to)}, api.OK
}

// Cat is the rope with another behind it.
func (r *Rope) Cat(o *Rope) (*Rope, api.Errno) {
	if r.Len()+o.Len() > api.MaxRope {
		return nil, api.ErrLong
	}
	return &Rope{join(r.root, o.root)}, api.OK
}

// Splice is the rope with del bytes at a place taken out, and others put in.
func (r *Rope) Splice(at, del int, ins []byte) (*Rope, api.Errno) {
	// Told apart so that no sum runs over, however great the numbers are.
	if !r.spans(at, r.Len()) || del < 0 || del > r.Len()-at {
		return nil, api.ErrRange
	}
	if len(ins) > api.MaxRope-(r.Len()-del) {
		return nil, api.ErrLong
	}
	ahead := cut(r.root, 0, at)
	behind := cut(r.root, at+del, r.Len())
	return &Rope{join(join(ahead, build(ins)), behind)}, api.OK
}

// Bytes tells all bytes.
func (r *Rope) Bytes() []byte {
	b, _ := r.Part(0, r.Len())
	return b
}

// Part tells the bytes from .. to-1.
func (r *Rope) Part(from, to int) ([]byte, api.Errno) {
	if !r.spans(from, to) {
		return nil, api.ErrRange
	}
	out := make([]byte, 0, to-from)
	chunks, _ := r.Chunks(from)
	for at, b := range chunks {
		if at+len(b) >= to {
			out = append(out, b[:to-at]...)
			break
		}
		out = append(out, b...)
	}
	return out, api.OK
}

// Equal says whether two ropes are of the same bytes.
func (r *Rope) Equal(o *Rope) bool {
	if r.root == o.root {
		return true
	}
	if r.root.tell() != o.root.tell() {
		return false
	}
	p, q := r.reader(0), o.reader(0)
	for p.more() && q.more() {
		n := min(len(p.piece), len(q.piece))
		if !bytes.Equal(p.take(n), q.take(n)) {
			return false
		}
	}
	return true
}

// Rows tells how many rows there are.
func (r *Rope) Rows() int { return r.root.tell().ends + 1 }

// Row tells the row and the column of a place.
func (r *Rope) Row(at int) (row, col int, e api.Errno) {
	if !r.spans(at, r.Len()) {
		return 0, 0, api.ErrRange
	}
	row = endsAhead(r.root, at)
	return row, at - behindEnd(r.root, row), api.OK
}

// Start tells where a row begins.
func (r *Rope) Start(row int) (int, api.Errno) {
	if row < 0 || row >= r.Rows() {
		return 0, api.ErrRange
	}
	return behindEnd(r.root, row), api.OK
}

// Chunks goes through the bytes from a place on, in pieces, each with its place.
func (r *Rope) Chunks(from int) (iter.Seq2[int, []byte], api.Errno) {
	if !r.spans(from, r.Len()) {
		return nil, api.ErrRange
	}
	return func(yield func(int, []byte) bool) {
		// A reader for each going over: they may run within one another.
		d := r.reader(from)
		for d.more() {
			if at := d.at; !yield(at, slices.Clone(d.take(len(d.piece)))) {
				return
			}
		}
	}, api.OK
}

// Read begins to read at a place.
func (r *Rope) Read(from int) (*Reader, api.Errno) {
	if !r.spans(from, r.Len()) {
		return nil, api.ErrRange
	}
	return r.reader(from), api.OK
}

func (r *Rope) spans(from, to int) bool {
	return 0 <= from && from <= to && to <= r.Len()
}
