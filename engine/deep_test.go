package engine_test

import (
	"strings"
	"testing"

	"graft/api"
)

// The languages of long texts: a nest, and statements in blocks, the list growing on the left or on the right, with error productions at different places.
const (
	pairs     = "token l = /l/; token r = /r/; token x = /x/; start S; S = l S r | x | error;"
	leftList  = "token x = /x/; token semi = /;/; token o = /o/; token c = /c/; start B; B = B S | ; S = E semi | error semi; E = x | o E c | o error c;"
	rightList = "token x = /x/; token semi = /;/; token o = /o/; token c = /c/; start B; B = S B | ; S = x semi | error semi | o B c;"
	rightEnd  = "token x = /x/; token semi = /;/; token o = /o/; token c = /c/; start B; B = S B | ; S = x semi | o B c | o B error c;"
)

// put is something put in at a place, and how many errors there are then.
type put struct {
	at     int
	ins    string
	errors int
}

// TestLong is P1, P1308 and P1309 of long texts, right and wrong, flat and deep: no call fails on them, or takes as long as the square of their length.
func TestLong(t *testing.T) {
	const n = api.MaxText/2 - 4
	for _, c := range []struct {
		what, spec, text string
		errors           int
		puts             []put
	}{
		{"deep", pairs, strings.Repeat("l", n/2-1) + "x" + strings.Repeat("r", n/2-1), 0, []put{{0, "lr", 1}, {n/2 - 1, "l", 1}, {n / 2, "x", 1}, {n - 2, "#", 1}}},
		{"deep, never closed", pairs, strings.Repeat("l", n), 1, []put{{0, "x", 1}, {n / 2, "r", 1}, {n, "x", 1}}},
		{"a list on the left", leftList, strings.Repeat("x;", n/2), 0, []put{{0, "x;", 0}, {n / 2, "c", 1}, {n, "x;", 0}}},
		{"errors on the left", leftList, strings.Repeat("xx;;", n/4), n / 2, []put{{0, "x;", n / 2}, {n / 2, "c", n / 2}, {n, "x;", n / 2}}},
		{"a list on the right", rightList, strings.Repeat("x;", n/2), 0, []put{{0, "x;", 0}, {n / 2, "c", 1}, {n, "x;", 0}}},
		{"errors on the right", rightList, strings.Repeat("x;c;", n/4), n / 4, []put{{0, "x;", n / 4}, {n, "x;", n / 4}}},
		{"a block that is not closed", rightEnd, "o" + strings.Repeat("x;", n/2-1), 1, []put{{n - 1, "c", 0}, {n - 1, "#c", 1}}},
		{"one leaf", ten, strings.Repeat("1", n), 1, []put{{n / 2, "+", 1}, {n, ";", 0}}},
		{"trivia alone", ten, strings.Repeat(" ", n), 0, []put{{n / 2, "#", 1}, {n / 2, ";", 1}}},
		{"bad bytes alone", ten, strings.Repeat("#", n), 1, []put{{n / 2, ";", 1}, {n, ";", 1}}},
	} {
		t.Run(c.what, func(t *testing.T) {
			t.Parallel()
			e := compiled(t, c.spec)
			d := opened(t, e, c.text)
			was := take(t, d, 0)
			wantWhole(t, was)
			if len(was.errors) != c.errors {
				t.Errorf("P1307: %d errors, not %d", len(was.errors), c.errors)
			}
			for i, p := range c.puts {
				if v, err := d.Edit(0, p.at, 0, []byte(p.ins)); v != 2*i+1 || err != api.OK {
					t.Fatalf("P1303: %d %v", v, err)
				}
				s := take(t, d, 2*i+1)
				wantWhole(t, s)
				if afresh := take(t, opened(t, e, c.text[:p.at]+p.ins+c.text[p.at:]), 0); !s.alike(afresh) || len(s.errors) != p.errors {
					t.Errorf("P1308: %q at %d, %d errors", p.ins, p.at, len(s.errors))
				}
				if v, err := d.Edit(2*i+1, p.at, len(p.ins), nil); v != 2*i+2 || err != api.OK {
					t.Fatalf("P1303: %d %v", v, err)
				}
				if back := take(t, d, 2*i+2); !back.alike(was) {
					t.Errorf("P1308: back from %q at %d", p.ins, p.at)
				}
			}
			if !take(t, d, 0).same(was) {
				t.Error("P1309")
			}
		})
	}
}

// TestLittle: an edit of a long text makes few nodes, and keeps all others.
func TestLittle(t *testing.T) {
	const n = 1 << 16
	d := opened(t, compiled(t, leftList), strings.Repeat("x;", n/2))
	if _, err := d.Edit(0, n, 0, []byte("x;")); err != api.OK {
		t.Fatal(err)
	}
	a, b := take(t, d, 0), take(t, d, 1)
	if fresh := len(b.rows) - stay(a.rows, b.rows); fresh > 12 {
		t.Errorf("P1306: %d new nodes", fresh)
	}
}

// TestManyVersions edits one text again and again, now the last version, now an older one.
func TestManyVersions(t *testing.T) {
	e := compiled(t, calls)
	texts := []string{strings.Repeat("a = f(1, \"b\", g(c));\n", 20)}
	d := opened(t, e, texts[0])
	bits := []string{";", "x", "(", ")", ",", "\"", " ", "1.5", "#", "\n"}
	for i := range 1500 {
		from := len(texts) - 1
		if i%7 == 0 {
			from = i * 31 % len(texts)
		}
		text := texts[from]
		change := api.Edit{At: i * 7919 % (len(text) + 1), Ins: []byte(bits[i*13%len(bits)])}
		if i%2 == 1 {
			change.Ins, change.Del = nil, min(2, len(text)-change.At)
		}
		if n, err := d.Edit(from, change.At, change.Del, change.Ins); n != len(texts) || err != api.OK {
			t.Fatalf("P1303: %d %v", n, err)
		}
		texts = append(texts, edited(text, change))
	}
	for i, text := range texts {
		if i%50 > 0 {
			continue
		}
		s := take(t, d, i)
		if !s.alike(take(t, opened(t, e, text), 0)) || s.text != text {
			t.Fatalf("P1308: version %d", i)
		}
	}
}
