package reuse_test

import (
	"slices"
	"strings"
	"testing"

	"graft/api"
	"graft/parse"
	"graft/reuse"
	"graft/table"
	"graft/tree"
)

// great has lists of items that cost many rows each: x with 255 nodes over nothing ahead of it, 257 in all; y 2; z 3. A list of none is one row; the end leaf and the root are two.
const great = "token x = /x/; token y = /y/; token z = /z/; start L; L = L A x | L y | L Z | ; Z = z; A = B B; B = C C; C = D D; D = E E; E = F F; F = G G; G = H H; H = ;"

// filled is a text with a list of so many rows.
func filled(rows int) string {
	many := (rows - 300) / 257
	left := rows - 1 - 257*many
	return strings.Repeat("x", many) + strings.Repeat("z", left%2) + strings.Repeat("y", (left-3*(left%2))/2)
}

// TestRoom: ErrFull just where Build answers it, by edits at the front, in the middle and at the end of texts that have as many rows as may be, or four less.
func TestRoom(t *testing.T) {
	last, less := filled(api.MaxRows-2), filled(api.MaxRows-6)
	plain, mend := made(t, great), made(t, strings.Replace(great, "L y", "L y | L error y", 1))
	for _, c := range []struct {
		what, old string
		x         *table.Table
		edits     []fill
	}{
		{"the greatest root", last, plain, []fill{
			{"rows more at the end", len(last), 0, "y", api.ErrFull},
			{"rows more at the front", 0, 0, "y", api.ErrFull},
			{"a row more", len(last) - 1, 1, "z", api.ErrFull},
			{"as many rows", len(last) - 1, 1, "y", api.OK},
			{"a stack too full, and an error that nothing mends", len(last), 0, "yyy#", api.ErrFull},
			{"a stack just full, and an error that nothing mends", len(last), 0, "y#", api.OK},
			{"an error ahead of all", 0, 0, "#", api.OK},
		}},
		{"a lesser one", less, plain, []fill{
			{"rows that there is room for", len(less), 0, "yy", api.OK},
			{"one too many of them", len(less) / 2, 0, "yz", api.ErrFull},
		}},
		{"with an error", less, mend, []fill{
			{"that is mended", len(less), 0, "#y", api.OK},
			{"that needs a row more", len(less), 0, "##y", api.ErrFull},
			{"whose node there is no room for", len(less), 0, "yyy#y", api.ErrFull},
		}},
	} {
		m := tree.New()
		old, _, e := parse.Build(c.x, m, row("xyz", c.old))
		if e != api.OK {
			t.Fatal(e)
		}
		for _, f := range c.edits {
			now := row("xyz", c.old[:f.at]+f.ins+c.old[f.at+f.del:])
			behind := len(c.old) + 1 - f.at - f.del
			n, count, e := reuse.Parse(c.x, m, old, now, f.at, behind)
			if e != f.e || (n == nil) != (e != api.OK) || n == nil && count != (api.Count{}) {
				t.Errorf("P1201: %s, %s: %v %v, not %v", c.what, f.what, count, e, f.e)
			}
			if n != nil && (count.Kept+count.Fresh != n.Size() || count.Kept < f.at+behind || !slices.Equal(leavesOf(n), now)) {
				t.Errorf("P1203: %s, %s: %v of %d", c.what, f.what, count, n.Size())
			}
			if _, _, e := reuse.Parse(c.x, m, old, now, f.at+1, behind+f.del); e != api.ErrFrom {
				t.Errorf("P1201: %s, %s: %v ahead of %v", c.what, f.what, e, api.ErrFrom)
			}
		}
	}
}

// fill is an edit, and what comes of it.
type fill struct {
	what    string
	at, del int
	ins     string
	e       api.Errno
}

// TestFromAheadOfFull: a kept leaf that is not what it was is told ahead of the room that there is not.
func TestFromAheadOfFull(t *testing.T) {
	x, m := made(t, great), tree.New()
	old, _, _ := parse.Build(x, m, row("xyz", "xyz"))
	now := row("xyz", filled(api.MaxRows))
	if _, _, e := parse.Build(x, m, now); e != api.ErrFull {
		t.Fatal(e)
	}
	refused(t, "full", x, m, old, now, 1, 1, api.ErrFull)
	refused(t, "none kept", x, m, old, now, 0, 0, api.ErrFull)
	refused(t, "another leaf", x, m, old, now, 2, 0, api.ErrFrom)
	refused(t, "too many", x, m, old, now, 5, 0, api.ErrFrom)
	refused(t, "below 0", x, m, old, now, 0, -1, api.ErrFrom)
	refused(t, "no row of leaves", x, m, old, now[:9], 0, -1, api.ErrLeaf)
}
