package engine_test

import (
	"bytes"
	"math"
	"slices"
	"strings"
	"testing"

	"graft/api"
	"graft/engine"
)

// refusal is an Edit with the error that it must answer.
type refusal struct {
	what             string
	version, at, del int
	ins              int // how many bytes
	want             api.Errno
}

// refusals are of a document whose version 0 has size bytes, and which has no version of the number none. With room for no more, what has no other error is ErrFull.
func refusals(size, none int, full bool) []refusal {
	out := []refusal{
		{"no version", none, 0, 0, 0, api.ErrVersion},
		{"no version, below 0", -1, 0, 0, 0, api.ErrVersion},
		{"no version, and no place", none, -1, 0, 0, api.ErrVersion},
		{"no version, and too long", none, 0, 0, api.MaxText + 1, api.ErrVersion},
		{"no version, no place, and too long", math.MinInt, math.MinInt, math.MinInt, api.MaxText + 1, api.ErrVersion},
		{"a place below 0", 0, -1, 0, 0, api.ErrRange},
		{"a place behind the end", 0, size + 1, 0, 0, api.ErrRange},
		{"fewer bytes than none", 0, 0, -1, 0, api.ErrRange},
		{"a byte too many", 0, 0, size + 1, 0, api.ErrRange},
		{"a byte too many at the end", 0, size, 1, 0, api.ErrRange},
		{"a byte too many in the middle", 0, size / 2, size - size/2 + 1, 0, api.ErrRange},
		{"the greatest place", 0, math.MaxInt, 0, 0, api.ErrRange},
		{"the greatest number of bytes", 0, 0, math.MaxInt, 0, api.ErrRange},
		{"both", 0, math.MaxInt, math.MaxInt, 0, api.ErrRange},
		{"a sum that wraps round", 0, math.MaxInt, 1, 0, api.ErrRange},
		{"a sum that wraps round to the text's length", 0, size / 2, math.MaxInt, 0, api.ErrRange},
		{"the least place", 0, math.MinInt, 0, 0, api.ErrRange},
		{"the least place and the greatest number", 0, math.MinInt, math.MaxInt, 0, api.ErrRange},
		{"a place below 0, and as many bytes", 0, -size - 1, size + 1, 0, api.ErrRange},
		{"a number that makes it fit", 0, size + 2, -2, 0, api.ErrRange},
		{"no place, and too long", 0, size + 1, 0, api.MaxText + 1, api.ErrRange},
		{"too many bytes, and too long", 0, 0, size + 1, 2 * api.MaxText, api.ErrRange},
		{"a byte too long", 0, size, 0, api.MaxText + 1 - size, api.ErrLong},
		{"a byte too long for what was taken out", 0, 0, size, api.MaxText + 1, api.ErrLong},
		{"far too long", 0, 0, 0, 8 * api.MaxText, api.ErrLong},
	}
	if full {
		out = append(out, refusal{"nothing", 0, 0, 0, 0, api.ErrFull}, refusal{"all", 0, 0, size, 0, api.ErrFull}, refusal{"one byte", 0, size, 0, 1, api.ErrFull})
	}
	return out
}

// wantRefused asks for all of them.
func wantRefused(t *testing.T, d *engine.Doc, l []refusal) {
	t.Helper()
	versions := d.Versions()
	for _, x := range l {
		if n, e := d.Edit(x.version, x.at, x.del, bytes.Repeat([]byte("1"), x.ins)); n != 0 || e != x.want {
			t.Errorf("P1303: %s: %d %v, not %v", x.what, n, e, x.want)
		}
	}
	if n := d.Versions(); n != versions {
		t.Errorf("P1309: %d versions, not %d", n, versions)
	}
}

// TestRefusals is P1303: the errors in their order, and that nothing is changed by them.
func TestRefusals(t *testing.T) {
	e := compiled(t, ten)
	for _, text := range texts() {
		d := watched(t, e, nil, text)
		d.edit(t, 0, api.Edit{At: len(text), Ins: []byte("  7;")}) // what fits version 1 need not fit version 0
		wantRefused(t, d.d, refusals(len(text), 2, false))
		d.stays(t)
		d.edit(t, 1, api.Edit{At: len(text) + 4})
		if n, err := d.d.Edit(0, 0, 0, nil); n != 3 || err != api.OK {
			t.Errorf("P1309: %d %v behind refusals", n, err)
		}
	}
}

// TestMostVersions: MaxVersions of them, and none more.
func TestMostVersions(t *testing.T) {
	d := opened(t, compiled(t, ten), "1;")
	for i := 1; i < api.MaxVersions; i++ {
		if n, e := d.Edit(i/2, 0, i%2, []byte("2")[:i%2]); n != i || e != api.OK {
			t.Fatalf("P1303: %d %v, not %d", n, e, i)
		}
	}
	last := take(t, d, api.MaxVersions-1)
	wantRefused(t, d, refusals(2, api.MaxVersions, true))
	if n := d.Versions(); n != api.MaxVersions {
		t.Errorf("P1304: %d versions", n)
	}
	for i := 1; i < api.MaxVersions; i++ {
		if o, _ := d.From(i); o.Parent != i/2 || o.Edit.Del != i%2 {
			t.Errorf("P1304: version %d: %v", i, o)
		}
	}
	if !take(t, d, api.MaxVersions-1).same(last) {
		t.Error("P1309: the last version has changed")
	}
	wantNone(t, d, api.MaxVersions)
}

// TestMostText is P1302 and P1303 of texts that are just as long as may be, and longer.
func TestMostText(t *testing.T) {
	t.Parallel()
	e := compiled(t, ten)
	most := strings.Repeat(strings.Repeat("1", 127)+";", api.MaxText/128)
	for _, n := range []int{1, 2, api.MaxText, 8 * api.MaxText} {
		for _, b := range []string{"1", ";", " ", "#"} {
			if d, err := e.Open(bytes.Repeat([]byte(b), api.MaxText+n)); d != nil || err != api.ErrLong {
				t.Errorf("P1302: %v of %d bytes more", err, n)
			}
		}
	}
	d := watched(t, e, nil, most)
	wantRefused(t, d.d, refusals(api.MaxText, 1, false))
	d.edit(t, 0, api.Edit{At: api.MaxText / 2, Del: 4, Ins: []byte("8765")})
	d.edit(t, 1, api.Edit{At: 8, Del: api.MaxText - 8})
	wantRefused(t, d.d, []refusal{{"version 1", 1, 0, 0, 1, api.ErrLong}, {"version 2", 2, 0, 0, api.MaxText - 7, api.ErrLong}})
	d.edit(t, 2, api.Edit{At: 8, Ins: []byte(most[8:])})
	if !d.shots[3].alike(d.shots[0]) {
		t.Error("P1308: there and back")
	}
}

// great has lists of items that cost many rows each: x with 255 nodes over nothing ahead of it, 257 in all; y 2; z 3. A list of none is one row; the end leaf and the root are two.
const great = "token x = /x/; token y = /y/; token z = /z/; start L; L = L A x | L y | L Z | ; Z = z; A = B B; B = C C; C = D D; D = E E; E = F F; F = G G; G = H H; H = ;"

// filled is a text whose tree has so many rows.
func filled(rows int) string {
	many := max(0, (rows-300)/257)
	left := rows - 3 - 257*many
	return strings.Repeat("x", many) + strings.Repeat("z", left%2) + strings.Repeat("y", (left-3*(left%2))/2)
}

// TestMostRows is P13's room: texts with a tree of MaxRows rows, and such as have none.
func TestMostRows(t *testing.T) {
	t.Parallel()
	e := compiled(t, great)
	d, err := e.Open([]byte(filled(api.MaxRows + 1)))
	if d != nil || err != api.ErrFull {
		t.Fatalf("P1302: %v", err)
	}
	most := filled(api.MaxRows)
	d = opened(t, e, most)
	root, _ := d.Root(0)
	if root.Size() != api.MaxRows {
		t.Fatalf("P13: %d rows", root.Size())
	}
	for _, x := range []refusal{
		{"a row more", 0, len(most) - 1, 1, 1, api.ErrFull},
		{"much more", 0, 0, 0, 5000, api.ErrFull},
		{"a row more, at no place", 0, len(most), 1, 1, api.ErrRange},
		{"a row more, of no version", 1, len(most) - 1, 1, 1, api.ErrVersion},
		{"too long", 0, 0, 0, api.MaxText, api.ErrLong},
	} {
		if n, err := d.Edit(x.version, x.at, x.del, bytes.Repeat([]byte("z"), x.ins)); n != 0 || err != x.want {
			t.Errorf("P1303: %s: %d %v, not %v", x.what, n, err, x.want)
		}
	}
	if again, _ := d.Root(0); d.Versions() != 1 || again != root {
		t.Errorf("P1309: %d versions", d.Versions())
	}
	// A text with no room for a tree that is broken has one, if it breaks ahead of that.
	if n, err := d.Edit(0, 0, 0, []byte("#")); n != 1 || err != api.OK {
		t.Errorf("P1303: %d %v", n, err)
	}
	if l, _ := d.Errors(1); !slices.Equal(l, []api.Span{at(0, len(most)+1)}) {
		t.Errorf("P1307: %v", l)
	}
}

// TestMostOfAll: the trees of all versions have MaxDoc rows together, and no more. Each counts, also where it is one that was there.
func TestMostOfAll(t *testing.T) {
	t.Parallel()
	const versions = 1024
	const rows = api.MaxDoc / versions
	e := compiled(t, great)
	text := filled(rows)
	for _, less := range []int{0, 3, 5, 8} { // how many rows are left behind so many versions
		d := opened(t, e, text)
		for i := 1; i < versions-1; i++ {
			if n, err := d.Edit(i-1, 0, 0, nil); n != i || err != api.OK {
				t.Fatalf("P1303: %d %v", n, err)
			}
		}
		if n, err := d.Edit(0, 0, len(text), []byte(filled(rows-less))); n != versions-1 || err != api.OK {
			t.Fatalf("P1303: %d %v with %d rows left", n, err, less)
		}
		version := versions
		for _, x := range []struct {
			text string
			rows int
		}{{"xx", 517}, {"yyy", 9}, {"zy", 8}, {"z", 6}, {"y", 5}, {"", 3}} {
			want := api.OK
			if x.rows > less {
				want = api.ErrFull
			}
			n, err := d.Edit(0, 0, len(text), []byte(x.text))
			if err != want || err == api.OK && n != version || err != api.OK && n != 0 {
				t.Errorf("P1303: %d %v of %q with %d rows left, not %v", n, err, x.text, less, want)
			}
			if want == api.OK {
				version++
				less -= x.rows
			}
		}
		if less == 0 {
			wantRefused(t, d, refusals(len(text), version, true))
		}
		if n := d.Versions(); n != version {
			t.Errorf("P1304: %d versions, not %d", n, version)
		}
	}
}
