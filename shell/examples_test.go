package shell_test

import (
	"strings"
	"testing"
)

// TestExamples are the chapter's.
func TestExamples(t *testing.T) {
	plays(t,
		`lang g "token num = /[0-9]+/; token plus = /\\+/; token semi = /;/; skip ws = / +/; start L; L = L S | ; S = E semi | error semi; E = E plus T | T; T = num;"`, "ok",
		`open d g "1;"`, "ok",
		"leaves d 0", "ok 0.0.1.2 2.0.1.2 -2.0.0.1",
		"tree d 0", "ok 4.0.0.0.2 2.0.0.0.2 2.1.0.0.0 2.2.0.0.2 2.5.0.0.1 2.6.0.0.1 1.0.0.1.0 1.2.0.1.0 1.-2.0.0.0",
		`edit d 0 2 0 "2 3;"`, "ok 1",
		"errors d 1", "ok 2.5",
		"edit d 0 3 0 x", "range",
		"text d 2", "version",
		"frob", "command",
		"text e 0", "none",
		" \t ", "",
	)
}

// one is a statement of a number alone, as rows: S, E, T, the leaves num and semi.
const one = "2.2.0.0.2 2.5.0.0.1 2.6.0.0.1 1.0.0.1.0 1.2.0.1.0"

// TestTenExamples are those of DOC.md, P10 to P14, told by the shell: leaves and trees of right and wrong texts.
func TestTenExamples(t *testing.T) {
	plays(t,
		lang("g", ten), "ok",
		"open a g 1;", "ok",
		"tree a 0", "ok 4.0.0.0.2 2.0.0.0.2 2.1.0.0.0 "+one+" 1.-2.0.0.0",
		`open a g ""`, "ok",
		"tree a 0", "ok 4.0.0.0.2 2.1.0.0.0 1.-2.0.0.0",
		`open a g "1 + 2 ;"`, "ok",
		"leaves a 0", "ok 0.0.1.2 1.1.1.3 0.1.1.3 2.1.1.3 -2.0.0.1",
		`open a g "1 2;"`, "ok", // the error node over both nums
		"tree a 0", "ok 4.0.0.0.2 2.0.0.0.2 2.1.0.0.0 2.3.0.0.2 3.0.0.0.2 1.0.0.1.0 1.0.1.1.0 1.2.0.1.0 1.-2.0.0.0",
		"errors a 0", "ok 0.3",
		`open a g 1+;`, "ok", // over E and plus
		"tree a 0", "ok 4.0.0.0.2 2.0.0.0.2 2.1.0.0.0 2.3.0.0.2 3.0.0.0.2 2.5.0.0.1 2.6.0.0.1 1.0.0.1.0 1.1.0.1.0 1.2.0.1.0 1.-2.0.0.0",
		"errors a 0", "ok 0.2",
		`open a g ;`, "ok", // over nothing
		"tree a 0", "ok 4.0.0.0.2 2.0.0.0.2 2.1.0.0.0 2.3.0.0.2 3.0.0.0.0 1.2.0.1.0 1.-2.0.0.0",
		"errors a 0", "ok 0.0",
		`open a g 1`, "ok", // broken
		"tree a 0", "ok 5.0.0.0.2 1.0.0.1.0 1.-2.0.0.0",
		"errors a 0", "ok 0.1",
		`open a g "1;#;2;"`, "ok",
		"tree a 0", "ok 4.0.0.0.2 2.0.0.0.2 2.0.0.0.2 2.0.0.0.2 2.1.0.0.0 "+one+" 2.3.0.0.2 3.0.0.0.1 1.-1.0.1.0 1.2.0.1.0 "+one+" 1.-2.0.0.0",
		"errors a 0", "ok 2.3",
	)
	plays(t,
		lang("g", ten), "ok",
		"open a g 1;2;3;", "ok",
		"edit a 0 4 1 45", "ok 1",
		"text a 1", `ok "1;2;45;"`,
		"changes a 0 1", "ok 3.6", // the semi ahead had looked at what was taken out
		"open b g 1;", "ok",
		"edit b 0 2 0 2;", "ok 1",
		"open c g 2;", "ok",
		"edit c 0 0 0 1;", "ok 1",
		"same b 1 c 1", "ok yes",
		"same b 0 c 0", "ok yes",
		"same b 0 c 1", "ok no",
	)
}

// TestReadme does the script that README.md shows.
func TestReadme(t *testing.T) {
	plays(t,
		lang("g", ten), "ok",
		`open d g "1;"      # a document of the language g`, "ok",
		`edit d 0 2 0 "2 3;"`, "ok 1",
		"errors d 1", "ok 2.5",
		`query q g "num @n"`, "ok",
		"ask q d 0", `ok 0 "n" 0.1`,
		"text d 7", "version",
		"text e 0", "none",
		"frob", "command",
	)
	if got, err := wantWords(t, `edit d 0 2 0 "2 3;"  # two numbers`); err != 0 || strings.Join(got, "|") != "edit|d|0|2|0|2 3;" {
		t.Errorf("P2001: %q %v", got, err)
	}
}
