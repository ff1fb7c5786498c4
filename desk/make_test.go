package desk_test

import (
	"fmt"
	"strings"
	"testing"

	"graft/api"
	"graft/desk"
	"graft/engine"
	"graft/spec"
)

// ten is the spec of the document's examples.
const ten = `token num = /[0-9]+/; token plus = /\+/; token semi = /;/; skip ws = / +/; start L; L = L S | ; S = E semi | error semi; E = E plus T | T; T = num;`

// great has lists of items that cost many rows each: x with 255 nodes over nothing ahead of it, 257 in all; y 2; z 3. A list of none is one row; the end leaf and the root are two.
const great = "token x = /x/; token y = /y/; token z = /z/; start L; L = L A x | L y | L Z | ; Z = z; A = B B; B = C C; C = D D; D = E E; E = F F; F = G G; G = H H; H = ;"

// filled is a text of great whose tree has so many rows.
func filled(rows int) string {
	many := max(0, (rows-300)/257)
	left := rows - 3 - 257*many
	return strings.Repeat("x", many) + strings.Repeat("z", left%2) + strings.Repeat("y", (left-3*(left%2))/2)
}

// language is a spec with texts of it, right and wrong ones, and bits of which others are made.
type language struct {
	spec  string
	texts []string
	bits  []string
}

// languages are of several kinds: lists, nests, productions over nothing, error productions at many places and none, tokens that look far ahead.
func languages() []language {
	return []language{
		{ten, []string{"", "1;", "1+2;3 ;", " 12 + 3;4;", "1 2;", "1+;", ";", "1", "1;#;2;"}, []string{"1", "+", ";", " ", "22", "#", "1;"}},
		{`token name = /[a-z]+/; token num = /[0-9]+(\.[0-9]+)?/; token text = /"[^"]*"/; token eq = /=/; token o = /\(/; token c = /\)/; token comma = /,/; token semi = /;/; skip s = /[ \n]+/; skip note = /#[^\n]*/; start P; P = P S | ; S = name eq V semi | V semi | error semi; V = num | text | name | name o A c | o error c; A = L | ; L = L comma V | V;`,
			[]string{"", "a = f(1, \"b\", g());\n", "1.5; #n\nx;", "f(;g(1;", "(1 2);"}, []string{"a", "1", ".5", "\"", "=", "(", ")", ",", ";", " ", "\n", "#", "\xff"}},
		{"token l = /l/; token r = /r/; token x = /x/; skip w = / /; start S; S = l S r | x | error;", []string{"x", "lxr", "l l x r r", "llx", "r"}, []string{"l", "r", "x", " ", "\x00"}},
		{"token a = /a/; token b = /b/; start S; S = a S b | ;", []string{"", "ab", "aaabbb", "aab"}, []string{"a", "b", "c"}},
		{"token x = /x/; token semi = /;/; token o = /o/; token c = /c/; skip w = / +/; start B; B = S B | ; S = x semi | o B c | o B error c;", []string{"", "x;ox;c", "ox;x", "oxc"}, []string{"x", ";", "o", "c", " "}},
		{"token dots = /[.]{3}/; token dot = /[.]/; token ab = /a(bc)*/; token b = /b{1,1000}/; token c = /c/; skip far = /-(--){0,}/; start S; S = S I | ; I = ab dot | b dots | error c | c;", []string{"", "abc.b...c", "a..b"}, []string{".", "a", "bc", "c", "-", "--"}},
	}
}

// compiled is the engine of a spec's text.
func compiled(t testing.TB, text string) *engine.Engine {
	t.Helper()
	s, f := spec.Parse(text)
	if f != (api.Fault{}) {
		t.Fatalf("%s: %+v", text, f)
	}
	e, f := engine.Compile(s)
	if e == nil || f != (api.Fault{}) {
		t.Fatalf("%s: %+v", text, f)
	}
	return e
}

// laid is a desk without documents.
func laid(t testing.TB, e *engine.Engine, workers int) *desk.Desk {
	t.Helper()
	d, err := desk.New(e, workers)
	if d == nil || err != api.OK {
		t.Fatalf("P1901: %v with %d workers", err, workers)
	}
	return d
}

// tenDesk is one of the examples' engine, with acts done at it.
func tenDesk(t testing.TB, acts ...api.Act) *desk.Desk {
	t.Helper()
	d := laid(t, compiled(t, ten), 4)
	for i, r := range d.Do(acts) {
		if r.Err != api.OK {
			t.Fatalf("P1902: act %d: %v", i, r.Err)
		}
	}
	return d
}

func opens(doc, text string) api.Act {
	return api.Act{Kind: api.AOpen, Doc: doc, Ins: []byte(text)}
}

// asks is an act that needs a session and a document alone.
func asks(kind, session int, doc string) api.Act {
	return api.Act{Kind: kind, Session: session, Doc: doc}
}

func closes(doc string) api.Act { return asks(api.AClose, 0, doc) }

func edits(session int, doc string, at, del int, ins string) api.Act {
	return api.Act{Kind: api.AEdit, Session: session, Doc: doc, At: at, Del: del, Ins: []byte(ins)}
}

func jumps(session int, doc string, version int) api.Act {
	return api.Act{Kind: api.AGoto, Session: session, Doc: doc, Version: version}
}

func batches(session int, doc string, n int) api.Act {
	return api.Act{Kind: api.ABatch, Session: session, Doc: doc, N: n}
}

// The acts of session 0 at the document d.
func edit(at, del int, ins string) api.Act { return edits(0, "d", at, del, ins) }
func ask(kind int) api.Act                 { return asks(kind, 0, "d") }
func jump(version int) api.Act             { return jumps(0, "d", version) }
func batch(n int) api.Act                  { return batches(0, "d", n) }

// word writes a reply as text: the error's word, or the version and what was asked for.
func word(a api.Act, r api.Reply) string {
	if r.Err != api.OK {
		return r.Err.Error()
	}
	s := fmt.Sprint(r.Version)
	switch a.Kind {
	case api.AText:
		s += " " + string(r.Text)
	case api.ATree:
		s += " " + rowsWord(r.Rows)
	case api.AErrors:
		for _, x := range r.Spans {
			s += fmt.Sprintf(" %d.%d", x.From, x.To)
		}
	}
	return s
}

// rowsWord writes rows as text: R.kids, B.kids, E.kids, an inner node by its production, a leaf by its kind and its bytes.
func rowsWord(rows []api.Row) string {
	var out []string
	for _, r := range rows {
		switch r.Kind {
		case api.NLeaf:
			out = append(out, fmt.Sprintf("'%d:%d:%d", r.N, r.Skip, r.Len))
		case api.NInner:
			out = append(out, fmt.Sprintf("%d.%d", r.N, r.Kids))
		default:
			out = append(out, fmt.Sprintf("%c.%d", "?..ERB"[r.Kind], r.Kids))
		}
	}
	return strings.Join(out, " ")
}

// wantForm is what P1902 says of every reply: with an error nothing stands beside it, without one what the table names and nothing else.
func wantForm(t testing.TB, a api.Act, r api.Reply) {
	t.Helper()
	bad := r.Err != api.OK && r.Version != 0
	bad = bad || len(r.Text) > 0 && (r.Err != api.OK || a.Kind != api.AText)
	bad = bad || (len(r.Rows) > 0) != (r.Err == api.OK && a.Kind == api.ATree)
	bad = bad || len(r.Spans) > 0 && (r.Err != api.OK || a.Kind != api.AErrors)
	bad = bad || (a.Kind == api.AOpen || a.Kind == api.AClose) && r.Version != 0
	if bad {
		t.Fatalf("P1902: %v, version %d, %d bytes, %d rows, %d spans, for an act of kind %d", r.Err, r.Version, len(r.Text), len(r.Rows), len(r.Spans), a.Kind)
	}
}

// does has acts done, and holds each reply against its text.
func does(t testing.TB, d *desk.Desk, acts []api.Act, want ...string) {
	t.Helper()
	got := d.Do(acts)
	if len(got) != len(acts) || len(want) != len(acts) {
		t.Fatalf("P1902: %d replies to %d acts, want %d", len(got), len(acts), len(want))
	}
	for i, r := range got {
		wantForm(t, acts[i], r)
		if w := word(acts[i], r); w != want[i] {
			t.Fatalf("P1902: act %d %+v: %q, not %q", i, acts[i], w, want[i])
		}
	}
}

// list is a list of acts.
func list(acts ...api.Act) []api.Act { return acts }

// words is a list of texts that are written in one, with bars between.
func words(s string) []string { return strings.Split(s, "|") }
