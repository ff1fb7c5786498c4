package shell_test

import (
	"fmt"
	"strings"
	"testing"
)

// TestDocuments is P2005 of open, edit, text, from and errors, by the examples of the chapter of documents.
func TestDocuments(t *testing.T) {
	plays(t,
		lang("g", ten), "ok",
		`open d g "1;"`, "ok",
		"edit d 0 1 0 2", "ok 1",
		`edit d 0 0 1 ""`, "ok 2",
		"text d 0", `ok "1;"`, "text d 1", `ok "12;"`, "text d 2", `ok ";"`, "text d 3", "version", "text d -1", "version",
		"from d 0", `ok -1 0 0 "1;"`, "from d 1", `ok 0 1 0 "2"`, "from d 2", `ok 0 0 1 ""`, "from d 3", "version", "from d -1", "version",
		`edit d 3 0 0 ""`, "version", `edit d -1 0 0 ""`, "version", `edit d 0 3 0 ""`, "range", `edit d 0 0 3 ""`, "range", `edit d 0 1 2 ""`, "range", `edit d 0 -1 0 ""`, "range", `edit d 0 0 -1 ""`, "range", `edit d 0 0 999999999 ""`, "range", "edit d 3 9 9 x", "version",
		"text d 3", "version", // a refused edit makes nothing
		`edit d 1 0 0 ""`, "ok 3", "text d 3", `ok "12;"`, "same d 1 d 3", "ok yes", "from d 3", `ok 1 0 0 ""`,
		"errors d 0", "ok", "errors d 2", "ok 0.0", "errors d 4", "version", "errors d -1", "version",
		`open e g "1 2;"`, "ok", "errors e 0", "ok 0.3", "open e g 1", "ok", "errors e 0", "ok 0.1", `open e g " 1 +;"`, "ok", "errors e 0", "ok 1.4", `open e g "1 2;3;#;4;"`, "ok", "errors e 0", "ok 0.3 6.7",
		"tree d 4", "version", "tree d -1", "version", "leaves d 4", "version", "leaves d -1", "version",
		"leaves e 0", "ok 0.0.1.2 0.1.1.3 2.0.1.2 0.0.1.2 2.0.1.2 -1.0.1.1 2.0.1.2 0.0.1.2 2.0.1.2 -2.0.0.1",
		"edit e 0 1 0 \xff\xfe", "ok 1", "text e 1", `ok "1\xff\xfe 2;3;#;4;"`, "from e 1", `ok 0 1 0 "\xff\xfe"`, `edit e 1 0 0 "\x00\n\t\\\""`, "ok 2", "text e 2", `ok "\x00\n\t\\\"1\xff\xfe 2;3;#;4;"`, "from e 2", `ok 1 0 0 "\x00\n\t\\\""`,
	)
}

// TestFull is P13's room, told by the shell: a text that has no tree makes no document and no version.
func TestFull(t *testing.T) {
	t.Parallel()
	long := strings.Repeat("x", 16321)
	got := answers(t, lang("g", great), "open d g xy", "open d g "+long, "text d 0", "edit d 0 0 0 "+long, "text d 1", "edit d 0 2 0 z")
	if want := "ok|ok|full|ok \"xy\"|full|version|ok 1"; strings.Join(got, "|") != want {
		t.Errorf("P2005: %q, not %q", got, want)
	}
}

// TestKept is P2005 of kept: rows of the second version whose nodes stand in the first one.
func TestKept(t *testing.T) {
	plays(t,
		lang("g", ten), "ok",
		"open d g 1;2;3;", "ok", // NRoot, L S three times, L of nothing, S of five rows three times, the end: 21 rows
		"kept d 0 0", "ok 21",
		"edit d 0 4 1 45", "ok 1",
		"kept d 1 1", "ok 21",
		// L over 1; (7 rows); of the second S the num with its T and E, but neither the semi nor S; of the third the semi; the end.
		"kept d 0 1", "ok 12",
		"kept d 1 0", "ok 12",
		"edit d 1 0 6 1;2;3", "ok 2",
		"same d 0 d 2", "ok yes",
		"kept d 0 2", "ok 2", // the last semi and the end
		"kept d 1 2", "ok 2",
		"kept d 0 3", "version", "kept d 3 0", "version", "kept d -1 0", "version", "kept d 0 -1", "version", "kept d 9 9", "version",
	)
}

// TestSame is P2005 of same: rows, whatever the languages, the documents and the texts.
func TestSame(t *testing.T) {
	plays(t,
		lang("g", ten), "ok", lang("h", ten), "ok", lang("k", "token a = /a+/; token b = /b/; token c = /c/; start S; S = a b c;"), "ok", lang("m", "token a = /a+/; token b = /b/; token c = /c/; start S; S = a b c | error;"), "ok",
		"open d g 1;2;", "ok", "open e h 3;4;", "ok", "open f g 12;", "ok",
		"same d 0 e 0", "ok yes", "same e 0 d 0", "ok yes", "same d 0 d 0", "ok yes", "same d 0 f 0", "ok no", // another length of a leaf
		"open a k aabc", "ok", "open b m aabc", "ok", "open c m aac", "ok", "same a 0 b 0", "ok yes", "same a 0 c 0", "ok no", "same a 0 d 0", "ok no",
		`open f g "1; 2;"`, "ok", "same d 0 f 0", "ok no", // another skip
		"open f g 1;2;3;", "ok", "same d 0 f 0", "ok no", "same f 0 d 0", "ok no", // the front of the other
		"open f g 1;2+;", "ok", "open e g 1;2+;", "ok", "same e 0 f 0", "ok yes",
		"same e 1 f 0", "version", "same e 0 f 1", "version", "same e -1 f 0", "version", "same e 0 f -1", "version", "same e 5 f 5", "version",
		"edit e 0 0 0 7", "ok 1", "same e 1 f 1", "version", "same e 1 f 0", "ok no", "same f 0 e 1", "ok no",
	)
}

// TestSameRows is P2005 of same where two trees have all but one number in common.
func TestSameRows(t *testing.T) {
	plays(t,
		lang("a", "start S; S = T U; T = ; U = ;"), "ok", lang("b", "start S; S = T; T = U; U = ;"), "ok", `open a a ""`, "ok", `open b b ""`, "ok",
		"tree a 0", "ok 4.0.0.0.2 2.0.0.0.2 2.1.0.0.0 2.2.0.0.0 1.-2.0.0.0", "tree b 0", "ok 4.0.0.0.2 2.0.0.0.1 2.1.0.0.1 2.2.0.0.0 1.-2.0.0.0", "same a 0 b 0", "ok no",
		lang("a", "token x = /x/; start T; S = x; T = S;"), "ok", lang("b", "token x = /x/; token y = /y/; start T; S = x y; T = error | S;"), "ok", "open a a x", "ok", "open b b x", "ok",
		"tree a 0", "ok 4.0.0.0.2 2.1.0.0.1 2.0.0.0.1 1.0.0.1.0 1.-2.0.0.0", "tree b 0", "ok 4.0.0.0.2 2.1.0.0.1 3.0.0.0.1 1.0.0.1.0 1.-2.0.0.0", "same a 0 b 0", "ok no",
	)
}

// TestMove is P2005 of move: along the edits by which a version came from another one, and from no other.
func TestMove(t *testing.T) {
	plays(t,
		lang("g", ten), "ok",
		"open d g 123456;", "ok",
		"edit d 0 4 2 789", "ok 1", // 1234789;
		"edit d 1 0 0 00", "ok 2", // 001234789;
		"edit d 0 0 1 9", "ok 3",
		"edit d 2 1 3 7", "ok 4", // 0734789;
		"move d 0 1 5 0", "ok 7", "move d 0 1 5 -1", "ok 4", "move d 0 1 4 0", "ok 7", "move d 0 1 4 -1", "ok 4", "move d 0 1 3 0", "ok 3", "move d 0 1 7 0", "ok 8", "move d 0 1 6 -5", "ok 4", "move d 0 1 6 5", "ok 7",
		"move d 0 2 5 0", "ok 9", "move d 0 2 5 -1", "ok 6", "move d 1 2 0 -1", "ok 0", "move d 1 2 0 0", "ok 2", "move d 1 2 0 1", "ok 2", "move d 0 4 0 0", "ok 2", "move d 0 4 0 -1", "ok 0", "move d 0 4 1 -1", "ok 1", "move d 0 4 1 0", "ok 2", "move d 0 4 3 0", "ok 3", "move d 0 4 6 1", "ok 7", "move d 0 3 0 -1", "ok 0", "move d 0 3 0 0", "ok 1",
		"move d 0 0 5 0", "ok 5", "move d 4 4 0 -1", "ok 0", "move d 2 2 262144 0", "ok 262144", // no edits
		"move d 1 0 0 0", "version", "move d 2 1 0 0", "version", "move d 1 3 0 0", "version", "move d 3 1 0 0", "version", "move d 3 4 0 0", "version", // W does not come from V
		"move d 5 5 0 0", "version", "move d 0 5 0 0", "version", "move d 5 0 0 0", "version", "move d -1 0 0 0", "version", "move d -1 -1 0 0", "version", "move d 0 -1 0 0", "version", "move d 7 4 0 0", "version",
		"move d 0 1 -1 0", "place", "move d 0 0 -1 0", "place", "move d 1 0 -1 0", "version", "move d 0 1 262145 0", "place", "move d 0 2 262143 0", "place", "move d 0 2 262141 0", "ok 262144", "move d 0 1 99 0", "ok 100", // the text's length is not asked
	)
	lines, want := list(lang("g", ten), "open d g 1;"), list("ok", "ok")
	for i := range 300 { // a long way
		lines, want = append(lines, fmt.Sprintf("edit d %d %d 0 2", i, i%2)), append(want, fmt.Sprintf("ok %d", i+1))
	}
	lines, want = append(lines, "move d 0 300 0 -1", "move d 0 300 0 0", "move d 0 300 2 0", "move d 299 300 2 0", "move d 300 299 2 0"), append(want, "ok 0", "ok 300", "ok 302", "ok 3", "version")
	var pairs []string
	for i := range lines {
		pairs = append(pairs, lines[i], want[i])
	}
	plays(t, pairs...)
}

// TestChanges is P2005 of changes: the bytes of the second version that are not the first one's.
func TestChanges(t *testing.T) {
	plays(t,
		lang("g", ten), "ok",
		"open d g 1;2;3;", "ok",
		"changes d 0 0", "ok",
		"edit d 0 4 1 45", "ok 1",
		"changes d 0 1", "ok 3.6", "changes d 1 0", "ok 3.5", "changes d 1 1", "ok",
		"edit d 1 0 1 8", "ok 2",
		"changes d 1 2", "ok 0.1", "changes d 0 2", "ok 0.1 3.6", "changes d 2 0", "ok 0.1 3.5",
		`edit d 0 2 2 ""`, "ok 3", "changes d 0 3", "ok 1.2", // the semi ahead had looked at what was taken out
		`edit d 0 0 6 ""`, "ok 4", "changes d 0 4", "ok", "changes d 4 0", "ok 0.6",
		"changes d 0 5", "version", "changes d 5 0", "version", "changes d -1 0", "version", "changes d 0 -1", "version",
	)
}

// TestWays is P1308 told by the shell: however a text was reached, its tree is that of a document that is opened with it.
func TestWays(t *testing.T) {
	for _, l := range languages() {
		lines := list(lang("g", l.spec), "open d g "+quoteOf(l.texts[0]))
		texts := []string{l.texts[0]}
		for i := range 60 {
			of := (i * 7) % len(texts)
			at := (i * 5) % (len(texts[of]) + 1)
			del := i % 3 % (len(texts[of]) - at + 1)
			ins := l.bits[i%len(l.bits)] + l.texts[i*i%len(l.texts)]
			if len(texts[of]) > 30 {
				at, del = 0, len(texts[of])
			}
			lines = append(lines, fmt.Sprintf("edit d %d %d %d %s", of, at, del, quoteOf(ins)))
			texts = append(texts, texts[of][:at]+ins+texts[of][at+del:])
		}
		begin := len(lines)
		for v, text := range texts {
			lines = append(lines, "open e g "+quoteOf(text), fmt.Sprintf("same d %d e 0", v), fmt.Sprintf("text d %d", v))
		}
		got := answers(t, lines...)[begin:]
		for v, text := range texts {
			if got[3*v] != "ok" || got[3*v+1] != "ok yes" || got[3*v+2] != "ok "+quoteOf(text) {
				t.Errorf("P1308: %.40s: version %d, %q: %q", l.spec, v, text, got[3*v:3*v+3])
			}
		}
	}
}
