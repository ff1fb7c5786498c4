package rope

import (
	"math/rand"
	"testing"

	"graft/api"
)

// inOrder asks that a part is as its comment says, and tells its pieces' lengths.
func inOrder(t *testing.T, p *part[size]) []int {
	t.Helper()
	if p == nil {
		return nil
	}
	if p.isPiece() {
		if len(p.piece) == 0 || len(p.piece) > mostBytes || p.high != 0 || p.right != nil {
			t.Fatalf("a piece of %d bytes, %d high", len(p.piece), p.high)
		}
		if p.told != (size{len(p.piece), countEnds(p.piece)}) {
			t.Fatalf("a piece of which %v is told", p.told)
		}
		return []int{len(p.piece)}
	}
	left, right := inOrder(t, p.left), inOrder(t, p.right)
	if d := p.left.high - p.right.high; d < -1 || d > 1 || p.high != max(p.left.high, p.right.high)+1 {
		t.Fatalf("a part %d high over %d and %d", p.high, p.left.high, p.right.high)
	}
	if p.told != p.left.told.plus(p.right.told) || p.piece != nil {
		t.Fatalf("a part of which %v is told over %v and %v", p.told, p.left.told, p.right.told)
	}
	return append(left, right...)
}

// balanced asks that a rope hangs in balance, without crumbs.
func balanced(t *testing.T, r *Rope) {
	t.Helper()
	pieces := inOrder(t, r.root)
	for i := 1; i < len(pieces); i++ {
		if pieces[i-1]+pieces[i] <= mostBytes {
			t.Fatalf("neighbours of %d and %d bytes would fit into one piece", pieces[i-1], pieces[i])
		}
	}
}

func must(t *testing.T, r *Rope, e api.Errno) *Rope {
	t.Helper()
	if e != api.OK {
		t.Fatal(e)
	}
	return r
}

func TestBalanceOfNew(t *testing.T) {
	for pieces := range 70 {
		for _, more := range []int{-1, 0, 1} {
			r, e := New(make([]byte, max(0, pieces*mostBytes+more)))
			balanced(t, must(t, r, e))
		}
	}
}

func TestBalanceOfJoins(t *testing.T) {
	for a := range 40 {
		for b := range 40 {
			x := build(make([]byte, a*mostBytes+a))
			y := build(make([]byte, b*mostBytes+1))
			balanced(t, &Rope{join(x, y)})
			balanced(t, &Rope{join(y, x)})
		}
	}
}

func TestBalanceOneSided(t *testing.T) { // one end grows all the time
	r := &Rope{}
	ahead := &Rope{}
	piece := make([]byte, mostBytes-100)
	for range 400 {
		x, e := r.Splice(r.Len(), 0, piece)
		r = must(t, x, e)
		x, e = ahead.Splice(0, 0, piece)
		ahead = must(t, x, e)
	}
	for r.Len() > 0 {
		balanced(t, r)
		balanced(t, ahead)
		x, e := r.Cut(0, r.Len()-min(r.Len(), 1500))
		r = must(t, x, e)
		x, e = ahead.Cut(min(ahead.Len(), 1500), ahead.Len())
		ahead = must(t, x, e)
	}
}

func TestBalanceOfEdits(t *testing.T) {
	d := rand.New(rand.NewSource(2))
	r := &Rope{}
	for range 4000 {
		at := d.Intn(r.Len() + 1)
		del := d.Intn(1 << d.Intn(15))
		del = min(del, r.Len()-at)
		x, e := r.Splice(at, del, make([]byte, d.Intn(1<<d.Intn(15))))
		r = must(t, x, e)
		balanced(t, r)
	}
}
