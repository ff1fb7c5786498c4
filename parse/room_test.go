package parse_test

import (
	"strings"
	"testing"

	"graft/api"
	"graft/parse"
	"graft/table"
	"graft/tree"
)

// sized is an E, as the ten examples have it, that begins with a num, and has so many rows. Most of them hang there many times.
func sized(t *testing.T, m *tree.Store, rows int) *tree.Node {
	t.Helper()
	over := func(kids []*tree.Node) *tree.Node {
		n, e := m.Make(api.NInner, 5, kids...)
		if e != api.OK {
			t.Fatal(e)
		}
		return n
	}
	pieces := []*tree.Node{m.Leaf(api.Leaf{Len: 1})}
	for pieces[len(pieces)-1].Size() < rows/2 {
		last := pieces[len(pieces)-1]
		pieces = append(pieces, over([]*tree.Node{last, last}))
	}
	var kids []*tree.Node
	for left := rows - 1; left > 0; {
		for pieces[len(pieces)-1].Size() > left {
			pieces = pieces[:len(pieces)-1]
		}
		kids = append(kids, pieces[len(pieces)-1])
		left -= pieces[len(pieces)-1].Size()
	}
	n := over(kids)
	if n.Size() != rows {
		t.Fatal(n.Size())
	}
	return n
}

// TestRoom is what P1104 to P1107 say of room: each call with a stack that leaves just as much as it takes, and with one row less.
func TestRoom(t *testing.T) {
	x := made(t, ten)
	for _, c := range []struct {
		what  string
		ahead string // leaves behind the E
		rows  int    // how many the call leaves besides those of the E
		do    func(m *tree.Store, p *parse.Machine) api.Errno
	}{
		{"Put of a plus", "", 1 + 1, put("+")},
		{"Put of a semi", "", 1 + 1, put(";")},
		{"Put behind two productions", ";", 1 + 1 + 2 + 1, put("1")},
		{"Take behind two productions", ";", 1 + 1 + 2 + 3, func(m *tree.Store, p *parse.Machine) api.Errno { return p.Take(sized(t, m, 3), 1) }},
		{"End", ";", 1 + 1 + 2 + 2, func(m *tree.Store, p *parse.Machine) api.Errno {
			_, e := p.End(m.Leaf(api.Leaf{Kind: api.KEnd}))
			return e
		}},
		{"Mend of none", "+", 1 + 1 + 1, mend(";", 0)},
		{"Mend of leaves", "", 1 + 1 + 3, mend("#11;", 3)},
		{"Mend behind productions", ";", 1 + 1 + 2 + 1 + 1, mend("#;", 1)},
	} {
		for _, more := range []int{0, 1} {
			m := tree.New()
			p := parse.New(x, m)
			gives(t, p.Take(sized(t, m, api.MaxRows-c.rows+more), 1), api.OK)
			for _, leaf := range nodes(m, row("1+;", c.ahead)) {
				if leaf.N() != api.KEnd {
					gives(t, p.Put(leaf), api.OK)
				}
			}
			if more == 0 {
				if e := c.do(m, p); e != api.OK {
					t.Errorf("%s: %v, but there is room", c.what, e)
				}
				continue
			}
			refuses(t, p, x, api.ErrFull, func() api.Errno { return c.do(m, p) })
		}
	}
}

// put puts on a leaf with a sign.
func put(sign string) func(m *tree.Store, p *parse.Machine) api.Errno {
	return func(m *tree.Store, p *parse.Machine) api.Errno { return p.Put(m.Leaf(row("1+;", sign)[0])) }
}

// mend mends at the first leaf of a text; if Wrong tells what it must and Mend does not, it lacks room.
func mend(text string, want int) func(m *tree.Store, p *parse.Machine) api.Errno {
	return func(m *tree.Store, p *parse.Machine) api.Errno {
		l := nodes(m, row("1+;", text))
		_, on, ok := p.Wrong(l, 0)
		got, mended := p.Mend(l, 0)
		switch {
		case on != want || !ok || mended && got != on || !mended && got != 0:
			return api.ErrArg
		case !mended:
			return api.ErrFull
		}
		return api.OK
	}
}

// TestRoomLast is the order of errors: what is wrong with a leaf or a tree is told ahead of the room that it has not.
func TestRoomLast(t *testing.T) {
	x, m := made(t, ten), tree.New()
	p := parse.New(x, m)
	refuses(t, p, x, api.ErrFull, func() api.Errno { return p.Take(sized(t, m, api.MaxRows), 1) })
	refuses(t, p, x, api.ErrGoes, func() api.Errno { return p.Take(sized(t, m, api.MaxRows), 0) })
	gives(t, p.Take(sized(t, m, api.MaxRows-1), 1), api.OK)
	refuses(t, p, x, api.ErrFull, func() api.Errno { return put("+")(m, p) })
	refuses(t, p, x, api.ErrGoes, func() api.Errno { return put("1")(m, p) })
	refuses(t, p, x, api.ErrGoes, func() api.Errno { return put("#")(m, p) })
	refuses(t, p, x, api.ErrLeaf, func() api.Errno { return p.Put(m.Leaf(api.Leaf{Kind: 3})) })
	refuses(t, p, x, api.ErrLeaf, func() api.Errno { return p.Put(m.Leaf(api.Leaf{Kind: api.KEnd})) })
	refuses(t, p, x, api.ErrGoes, func() api.Errno { return p.Take(sized(t, m, 9), 5) })
	refuses(t, p, x, api.ErrGoes, func() api.Errno { _, e := p.End(m.Leaf(api.Leaf{Kind: api.KEnd})); return e })
	refuses(t, p, x, api.ErrLeaf, func() api.Errno { _, e := p.End(m.Leaf(api.Leaf{Kind: 2})); return e })
}

// TestFullAgain: behind a refusal for want of room the machine goes on with what takes less.
func TestFullAgain(t *testing.T) {
	x, m := made(t, ten), tree.New()
	p := parse.New(x, m)
	gives(t, p.Take(sized(t, m, api.MaxRows-8), 1), api.OK)
	gives(t, put("+")(m, p), api.OK)
	great, _ := m.Make(api.NInner, 6, sized(t, m, 6))
	small, _ := m.Make(api.NInner, 6, sized(t, m, 2))
	refuses(t, p, x, api.ErrFull, func() api.Errno { return p.Take(great, 8) })
	gives(t, p.Take(small, 8), api.OK)
	gives(t, put(";")(m, p), api.OK)
	refuses(t, p, x, api.ErrFull, func() api.Errno { _, e := p.End(m.Leaf(api.Leaf{Kind: api.KEnd})); return e })
}

// TestRoomAgain: behind the root all room is there again.
func TestRoomAgain(t *testing.T) {
	x, m := made(t, ten), tree.New()
	p := parse.New(x, m)
	for range 3 {
		gives(t, p.Take(sized(t, m, api.MaxRows-6), 1), api.OK)
		gives(t, put(";")(m, p), api.OK)
		root, e := p.End(m.Leaf(api.Leaf{Kind: api.KEnd}))
		if e != api.OK || root.Size() != api.MaxRows {
			t.Fatalf("P1107: %v", e)
		}
	}
}

// great has lists of items that cost many rows each: x with 255 nodes over nothing ahead of it, 257 in all; y 2; z 3. A list of none is one row; the end leaf and the root are two.
const great = "token x = /x/; token y = /y/; token z = /z/; start L; L = L A x | L y | L Z | ; Z = z; A = B B; B = C C; C = D D; D = E E; E = F F; F = G G; G = H H; H = ;"

// TestBuildRoom is P13's room of whole texts: the greatest root, one with a row more, stacks that are just full and too full, with and without an error behind them.
func TestBuildRoom(t *testing.T) {
	const many = (api.MaxRows - 300) / 257
	xs := strings.Repeat("x", many)
	// filled is a text of x with a list of so many rows.
	filled := func(rows int) string {
		left := rows - 1 - 257*many
		return xs + strings.Repeat("z", left%2) + strings.Repeat("y", (left-3*(left%2))/2)
	}
	plain, mend := made(t, great), made(t, strings.Replace(great, "L y", "L y | L error y", 1))
	for _, c := range []struct {
		what, text string
		x          *table.Table
		e          api.Errno
		rows       int
	}{
		{"the greatest root", filled(api.MaxRows - 2), plain, api.OK, api.MaxRows},
		{"a row more", filled(api.MaxRows - 1), plain, api.ErrFull, 0},
		{"a stack too full, and an error that nothing mends", filled(api.MaxRows+2) + "#", plain, api.ErrFull, 0},
		{"a stack just full, and an error that nothing mends", filled(api.MaxRows+1) + "#", plain, api.OK, len(filled(api.MaxRows+1)) + 3},
		{"a stack just full, and an error that might be mended", filled(api.MaxRows+1) + "#y", mend, api.ErrFull, 0},
		{"the greatest root with an error", filled(api.MaxRows-2-4) + "#y", mend, api.OK, api.MaxRows},
		{"a row more with an error", filled(api.MaxRows-1-4) + "#y", mend, api.ErrFull, 0},
		{"an error that nothing mends far ahead", "#" + xs + xs, plain, api.OK, 2*many + 3},
	} {
		t.Run(c.what, func(t *testing.T) {
			n, l, e := parse.Build(c.x, tree.New(), row("xyz", c.text))
			if e != c.e || (n == nil) != (e != api.OK) || n != nil && n.Size() != c.rows || e != api.OK && len(l) > 0 {
				t.Errorf("P13: %v", e)
			}
		})
	}
}
