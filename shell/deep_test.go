package shell_test

import (
	"strings"
	"testing"
)

// deep is a language of brackets in one another, without end.
const deep = "token l = /l/; token r = /r/; token x = /x/; skip w = / /; start S; S = l S r | x | error;"

// TestDeep is P1: trees may be as deep as their texts are long.
func TestDeep(t *testing.T) {
	t.Parallel()
	const n = 25000
	text := strings.Repeat("l", n) + "x" + strings.Repeat("r", n)
	lines := list(lang("g", deep), "open d g "+text,
		"edit d 0 25000 1 \"x \"", "edit d 0 25001 1 \"\"", "edit d 0 0 1 \"\"", "tree d 0", "tree d 2", "leaves d 1", "errors d 0", "errors d 2", "errors d 3", "kept d 0 1", "kept d 0 2", "same d 0 d 1", "same d 0 d 0", "changes d 0 1", "changes d 1 0", "changes d 0 3", "move d 0 1 25001 0",
		`query q g "x @x"`, "ask q d 0", "ask q d 1", `query r g "(S ~ x @x)"`, "ask r d 0", `query s g "(S l . (S x @in) . r) @all"`, "ask s d 0", `query t g "(! ~ x @x) @e"`, "ask t d 2", "ask t d 3",
		`layout p g " " " " "" nnnn,nn,nn`, "print p d 0", "print p d 1", "print p d 2", `layout p g " " " " " " nion,nn,nn`, "print p d 0", "pack b d", "unpack e b", "same d 1 e 1", "same d 2 e 2", "same d 3 e 3", "kept e 0 3", "text e 3", "from e 1", "tokens g "+text[:10000])
	got := strings.Split(wantRun(t, script(lines...)), "\n")
	told := map[string]string{}
	for i, line := range lines {
		told[line] = got[i]
	}
	rows := strings.Fields(told["tree d 0"])
	if len(rows) != 1+1+n+n+2+n+1 || rows[1] != "4.0.0.0.2" || rows[2] != "2.0.0.0.3" || rows[len(rows)-1] != "1.-2.0.0.0" {
		t.Errorf("P13: %d rows, %.100q", len(rows), rows)
	}
	for line, want := range map[string]string{
		"same d 0 d 0": "ok yes", "same d 0 d 1": "ok no", "errors d 0": "ok", "move d 0 1 25001 0": "ok 25002", "same d 3 e 3": "ok yes", "unpack e b": "ok 4", "from e 1": `ok 0 25000 1 "x "`, "ask q d 0": `ok 0 "x" 25000.25001`, "ask r d 0": "tries", "ask s d 0": `ok 0 "all" 24999.25002 "in" 25000.25001`, "print p d 0": "long",
	} {
		if told[line] != want {
			t.Errorf("P1: %s: %.100s, not %s", line, told[line], want)
		}
	}
}

// TestWide is P1 of texts that fill the script: a row of many leaves, right and wrong.
func TestWide(t *testing.T) {
	t.Parallel()
	for _, unit := range []string{"1;", "1", ";", "+", "#", "1+", " ", "1 2;", "\xff", "12;"} {
		text := strings.Repeat(unit, 60000/len(unit))
		lines := list(lang("g", ten), "open d g \""+text+"\"", "leaves d 0", "errors d 0", "edit d 0 30000 2 3", "kept d 0 1", "kept d 1 0", "changes d 0 1", "same d 0 d 1", "query q g num", "ask q d 0", `layout p g " " " " "" `+linedGaps, "print p d 0", "pack b d", "unpack e b", "same d 1 e 1", "from e 1")
		got := strings.Split(wantRun(t, script(lines...)), "\n")
		if got[1] != "ok" || got[4] != "ok 1" || got[14] != "ok 2" || got[15] != "ok yes" {
			t.Errorf("P1: of %q: %.200q", unit, got)
		}
	}
}
