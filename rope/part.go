package rope

import "slices"

// mostBytes of a piece: so many that the tree stays small, so few that an edit copies little.
const mostBytes = 1024

// sum is what is told of a part; of two parts side by side that of the one plus that of the other is told.
type sum[T any] interface {
	plus(other T) T
}

// part is a balanced tree of pieces: a piece, or two parts side by side, of which none is more than one higher than the other.
// It never changes, so ropes share it. No piece is empty (no bytes are the part nil), and no two neighbours would fit into one piece.
type part[T sum[T]] struct {
	left, right *part[T]
	piece       []byte
	high        int
	told        T
}

func (p *part[T]) tell() T {
	if p == nil {
		var nothing T
		return nothing
	}
	return p.told
}

// join is the part of a's bytes with b's behind them.
func join[T sum[T]](a, b *part[T]) *part[T] {
	if a == nil {
		return b
	}
	if b == nil {
		return a
	}
	last, first := a.last(), b.first()
	if len(last.piece)+len(first.piece) > mostBytes {
		return link(a, b)
	}
	// Small neighbours become one piece, else many edits would leave a tree of crumbs.
	return link(a.withLast(glue(last, first)), b.withoutFirst())
}

// link hangs two parts side by side and keeps the balance: the lower one goes down the near side of the higher one.
func link[T sum[T]](a, b *part[T]) *part[T] {
	switch {
	case a == nil:
		return b
	case b == nil:
		return a
	case a.high > b.high+1:
		return level(a.left, link(a.right, b))
	case b.high > a.high+1:
		return level(link(a, b.left), b.right)
	}
	return pair(a, b)
}

// level is the pair of two parts of which one may be higher by two, turned so that it hangs in balance.
func level[T sum[T]](a, b *part[T]) *part[T] {
	switch {
	case a.high > b.high+1 && a.left.high >= a.right.high:
		return pair(a.left, pair(a.right, b))
	case a.high > b.high+1:
		return pair(pair(a.left, a.right.left), pair(a.right.right, b))
	case b.high > a.high+1 && b.right.high >= b.left.high:
		return pair(pair(a, b.left), b.right)
	case b.high > a.high+1:
		return pair(pair(a, b.left.left), pair(b.left.right, b.right))
	}
	return pair(a, b)
}

func pair[T sum[T]](a, b *part[T]) *part[T] {
	return &part[T]{left: a, right: b, high: max(a.high, b.high) + 1, told: a.told.plus(b.told)}
}

func glue[T sum[T]](a, b *part[T]) *part[T] {
	return &part[T]{piece: slices.Concat(a.piece, b.piece), told: a.told.plus(b.told)}
}

func (p *part[T]) isPiece() bool { return p.left == nil }

func (p *part[T]) first() *part[T] {
	for !p.isPiece() {
		p = p.left
	}
	return p
}

func (p *part[T]) last() *part[T] {
	for !p.isPiece() {
		p = p.right
	}
	return p
}

// withLast is p with another piece in place of its last one.
func (p *part[T]) withLast(piece *part[T]) *part[T] {
	if p.isPiece() {
		return piece
	}
	return pair(p.left, p.right.withLast(piece))
}

func (p *part[T]) withoutFirst() *part[T] {
	if p.isPiece() {
		return nil
	}
	return link(p.left.withoutFirst(), p.right)
}
