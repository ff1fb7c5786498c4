package rope

// Reader reads a rope byte by byte.
type Reader struct {
	at    int
	piece []byte // what is not yet read of the piece at hand
	rest  *trail // the parts behind it, the nearest first
}

// trail is the way back up the tree. It never changes, so that a reader's copy goes its own way.
type trail struct {
	part *part[size]
	up   *trail
}

// reader stands at a place of the rope, or at its end.
func (r *Rope) reader(from int) *Reader {
	d := &Reader{at: from}
	p := r.root
	if p == nil {
		return d
	}
	for !p.isPiece() {
		if n := p.left.told.bytes; from < n {
			d.rest = &trail{p.right, d.rest}
			p = p.left
		} else {
			p, from = p.right, from-n
		}
	}
	d.piece = p.piece[from:]
	return d
}

// Next tells the next byte.
func (r *Reader) Next() (byte, bool) {
	if !r.more() {
		return 0, false
	}
	return r.take(1)[0], true
}

// At tells the place of the next byte.
func (r *Reader) At() int { return r.at }

// more takes up the next piece when the one at hand is used up, and says whether a byte is there.
func (r *Reader) more() bool {
	var p *part[size]
up:
	if len(r.piece) > 0 {
		return true
	}
	if r.rest == nil {
		return false
	}
	p, r.rest = r.rest.part, r.rest.up
down:
	if !p.isPiece() {
		r.rest = &trail{p.right, r.rest}
		p = p.left
		goto down
	}
	r.piece = p.piece
	goto up
}

// take goes on by n bytes of the piece at hand, and lends them.
func (r *Reader) take(n int) []byte {
	b := r.piece[:n]
	r.piece = r.piece[n:]
	r.at += n
	return b
}
