package rope

import (
	"bytes"
	"slices"
)

// rowEnd is the byte with which a row ends.
const rowEnd = 10

// size is what a rope's part is asked for: its bytes, and how many of them end a row.
type size struct {
	bytes, ends int
}

func (s size) plus(other size) size {
	return size{s.bytes + other.bytes, s.ends + other.ends}
}

func countEnds(b []byte) int { return bytes.Count(b, []byte{rowEnd}) }

// onePiece copies b, so that it hangs neither on the caller's list nor on a longer piece that nobody needs any more.
func onePiece(b []byte) *part[size] {
	return &part[size]{piece: slices.Clone(b), told: size{len(b), countEnds(b)}}
}

// build is the part of b's bytes, in as few pieces as there can be.
func build(b []byte) *part[size] {
	if len(b) == 0 {
		return nil
	}
	if len(b) <= mostBytes {
		return onePiece(b)
	}
	pieces := (len(b) + mostBytes - 1) / mostBytes
	half := pieces / 2 * mostBytes
	return join(build(b[:half]), build(b[half:]))
}

// cut is the part of the bytes from .. to-1; the places are some of p's.
func cut(p *part[size], from, to int) *part[size] {
	switch {
	case from >= to:
		return nil
	case from == 0 && to == p.told.bytes:
		return p
	case p.isPiece():
		return onePiece(p.piece[from:to])
	}
	n := p.left.told.bytes
	return join(cut(p.left, from, min(to, n)), cut(p.right, max(from-n, 0), to-n))
}

// find is the piece that holds the byte at a place of p, and its place in there.
func find(p *part[size], at int) (*part[size], int) {
	for !p.isPiece() {
		if n := p.left.told.bytes; at < n {
			p = p.left
		} else {
			p, at = p.right, at-n
		}
	}
	return p, at
}

// endsAhead tells how many rows end ahead of a place.
func endsAhead(p *part[size], at int) int {
	if at == p.tell().bytes {
		return p.tell().ends
	}
	ends := 0
	for !p.isPiece() {
		if n := p.left.told.bytes; at < n {
			p = p.left
		} else {
			ends += p.left.told.ends
			p, at = p.right, at-n
		}
	}
	return ends + countEnds(p.piece[:at])
}

// behindEnd tells the place behind the end of so many rows; p has as many.
func behindEnd(p *part[size], rows int) int {
	if rows == 0 {
		return 0
	}
	at := 0
	for !p.isPiece() {
		if n := p.left.told.ends; rows <= n {
			p = p.left
		} else {
			at += p.left.told.bytes
			p, rows = p.right, rows-n
		}
	}
	b := p.piece
	for range rows {
		i := bytes.IndexByte(b, rowEnd) + 1
		b, at = b[i:], at+i
	}
	return at
}
