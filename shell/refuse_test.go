package shell_test

import (
	"slices"
	"strings"
	"testing"

	"graft/shell"
)

// setting is a run in which there is a thing of each kind, each under a name of its own, and one of each under the name all.
func setting() []string {
	var lines []string
	for _, n := range [][5]string{{"L", "T", "Q", "P", "B"}, {"all", "all", "all", "all", "all"}} {
		lines = append(lines,
			lang(n[0], ten),
			"open "+n[1]+" "+n[0]+" 1;2;",
			"edit "+n[1]+" 0 0 1 3",
			"query "+n[2]+" "+n[0]+" num",
			"layout "+n[3]+" "+n[0]+` " " " " "" `+linedGaps,
			"pack "+n[4]+" "+n[1],
		)
	}
	return lines
}

// worthy is a right line of a command by its usage: a word for each of the usage's, behind the name.
func worthy(usage string) []string {
	var words []string
	for i, u := range strings.Fields(usage) {
		switch u {
		case "L", "T", "Q", "P", "B":
			words = append(words, u)
		case "L1", "T1", "Q1", "P1", "B1":
			words = append(words, "new")
		case "V", "A", "D", "N":
			words = append(words, "0")
		case "W":
			words = append(words, "1")
		case "BLANK", "INDENT":
			words = append(words, `" "`)
		case "LINE":
			words = append(words, `"\n"`)
		case "GAPS":
			words = append(words, linedGaps)
		case "TEXT":
			words = append(words, map[string]string{"lang": quoteOf(ten), "conflicts": quoteOf(ten), "query": "num"}[words[0]])
			if words[i] == "" {
				words[i] = "7;"
			}
		default:
			words = append(words, u)
		}
	}
	return words
}

// after is the answer to a line in the setting.
func after(t testing.TB, line string) string {
	t.Helper()
	lines := append(setting(), line)
	wantRun(t, script(lines...))
	return answers(t, lines...)[len(lines)-1]
}

// with is words with another one at a place.
func with(words []string, at int, word string) []string {
	words = slices.Clone(words)
	words[at] = word
	return words
}

// joined is words as a line.
func joined(words ...string) string { return strings.Join(words, " ") }

// isNumber says of a word of a usage whether it must be a number; isThing whether it must name a thing.
func isNumber(u string) bool { return len(u) == 1 && strings.Contains("VWADN", u) }
func isThing(u string) bool  { return len(u) == 1 && strings.Contains("LTQPB", u) }

// TestSetting: all that the tests below begin with is right.
func TestSetting(t *testing.T) {
	for i, got := range answers(t, setting()...) {
		if !strings.HasPrefix(got, "ok") {
			t.Fatalf("line %d: %s", i, got)
		}
	}
	for _, u := range usages() {
		if got := after(t, joined(worthy(u)...)); got != "ok" && !strings.HasPrefix(got, "ok ") {
			t.Errorf("P2005: %s: %s", u, got)
		}
	}
}

// TestNoCommand is P2004: what is no command of the table, and words that are too many or too few.
func TestNoCommand(t *testing.T) {
	t.Parallel()
	for _, line := range []string{"frob", "Lang", "LANG g x", "langg g x", "lan g x", "l", `""`, `"" L`, `"spec " L`, `" spec" L`, "spec\xff L", "L", "T 0", "0", "-", "texts T 0", "ok", "help", "desk", "paint L"} {
		if got := after(t, line); got != "command" {
			t.Errorf("P2004: %s: %s", line, got)
		}
	}
	for _, u := range usages() {
		words := worthy(u)
		right := joined(words...)
		if got := after(t, `"`+words[0]+`" `+joined(words[1:]...)); !strings.HasPrefix(got, "ok") { // a word is what it stands for
			t.Errorf("P2004: %s in quotes: %s", words[0], got)
		}
		for _, line := range []string{right + " x", right + ` ""`, right + " 0", right + " " + words[1], words[0], joined(words[:len(words)-1]...), words[0] + " " + joined(words[2:]...), right + " " + joined(words...), right + ` "`, right + "\x00", right + "\r", "\x01" + right, strings.ToUpper(words[0]) + " " + joined(words[1:]...)} {
			if got := after(t, line); got != "command" {
				t.Errorf("P2004: %q: %s", line, got)
			}
		}
		for count := range len(words) { // fewer, with no thing of that name too
			if got := shell.Run(joined(words[:count]...)); count > 0 && got != "command\n" {
				t.Errorf("P2004: %q: %s", words[:count], got)
			}
		}
	}
}

// TestNumbers is P2004 of each word that must be a number.
func TestNumbers(t *testing.T) {
	t.Parallel()
	wrong := []string{"-", "--1", "+1", "+", "1234567890", "0000000001", "-1234567890", "-0000000000", "x", `""`, "1x", "x1", "1.0", "1,0", `" 1"`, `"1 "`, `"1\n"`, `"\x00"`, "0x1", "1e1", "1_0", "1-", "-1-", "12345678901234567890123456789012345678901234567890", "٣", "\xff", "-x", "१", "¹", "−1", "1\u00a0", "0b1", "Inf", "/", ":", "1/", ":1"}
	right := []string{"0", "-0", "1", "-1", "00", "000000000", "000000001", "-000000001", "999999999", "-999999999", "123456789", `"1"`, `"\x31"`, "7", "8", "9", "10"}
	for _, u := range usages() {
		words, usage := worthy(u), strings.Fields(u)
		for i, x := range usage {
			if !isNumber(x) {
				continue
			}
			for _, n := range wrong {
				if got := after(t, joined(with(words, i, n)...)); got != "command" {
					t.Errorf("P2004: %s, %s is %s: %s", u, x, n, got)
				}
			}
			for _, n := range right {
				if got := after(t, joined(with(words, i, n)...)); got == "command" || got == "none" {
					t.Errorf("P2004: %s, %s is %s: %s", u, x, n, got)
				}
			}
		}
	}
	plays(t, append(list(lang("g", ten), "ok", "open d g 1;", "ok", "edit d 0 0 0 2", "ok 1"),
		"text d 1", `ok "21;"`, "text d 000000001", `ok "21;"`, "text d -0", `ok "1;"`, "text d 00", `ok "1;"`, "text d -1", "version", "text d 2", "version", "text d 999999999", "version", "text d -999999999", "version",
		"edit d 000000001 001 -000 3", "ok 2", "text d 2", `ok "231;"`, "edit d 0 -1 0 3", "range", "edit d 0 0 -1 3", "range", "edit d 0 999999999 999999999 3", "range", "edit d 0 1 1 3", "ok 3", "edit d 0 2 1 3", "range",
		"move d 0 1 -1 0", "place", "move d 0 1 262144 0", "place", "move d 0 1 262143 0", "ok 262144", "move d 0 1 262145 0", "place", "move d 0 1 999999999 0", "place", "move d 0 0 262144 -999999999", "ok 262144", "move d 0 0 262145 -1", "place",
	)...)
}

// TestNone is P2004: names that are not there, of the kind that is asked, also where a thing of another kind has it.
func TestNone(t *testing.T) {
	t.Parallel()
	kinds := []string{"L", "T", "Q", "P", "B"}
	for _, u := range usages() {
		words, usage := worthy(u), strings.Fields(u)
		for i, x := range usage {
			if !isThing(x) {
				continue
			}
			for _, name := range append(kinds, "none", `""`, "l", "t", `"T "`, "\xff", "0", "T1", "new", "ALL", "al", `"all\x00"`) {
				if name == x {
					continue
				}
				if got := after(t, joined(with(words, i, name)...)); got != "none" {
					t.Errorf("P2004: %s, %s is %s: %s", u, x, name, got)
				}
			}
			for j, y := range usage { // what else is wrong
				line := with(words, i, "none")
				if isNumber(y) {
					if got := after(t, joined(with(line, j, "x")...)); got != "command" {
						t.Errorf("P2004: %s, no %s, and %s no number: %s", u, x, y, got)
					}
					if got := after(t, joined(with(line, j, "77")...)); got != "none" {
						t.Errorf("P2004: %s, no %s, and %s no version or place: %s", u, x, y, got)
					}
				}
				if isThing(y) || y == "TEXT" || y == "GAPS" {
					if got := after(t, joined(with(line, j, "none")...)); got != "none" {
						t.Errorf("P2004: %s, no %s, and no %s: %s", u, x, y, got)
					}
				}
			}
		}
		all := slices.Clone(words)
		for i, x := range usage {
			if isThing(x) {
				all[i] = "all"
			}
		}
		got, want := after(t, joined(all...)), after(t, joined(words...))
		if got != want && !strings.HasPrefix(u, "pack") {
			t.Errorf("P2004: %s of the things under one name: %.100s, not %.100s", u, got, want)
		}
	}
}

// TestCommandFirst: with a number that is none and a name that is not there the answer is command; the text is not looked at ahead of the names.
func TestCommandFirst(t *testing.T) {
	plays(t,
		"text d x", "command", "text d 0", "none", "edit d 0 0 x x", "command", "edit d 0 0 0 x", "none", "same d 0 e x", "command", "same d x e 0", "command", "same d 0 e 0", "none",
		"move d 0 0 0 -", "command", "ask q d +0", "command", "print p d 1.", "command", "kept d 0 \"\"", "command", "changes d 0000000000 0", "command",
		"tokens g x", "none", "open d g x", "none", "query q g (", "none", "layout p g x x x z", "none", `layout p g "" "" "" ""`, "none", "unpack d b", "none", "pack b d", "none", "spec g", "none", "states g", "none", "first g", "none",
		lang("g", ten), "ok", "open d g 1;", "ok", "same d 0 e 0", "none", "same e 0 d 0", "none", "same d 9 e 0", "none", "same e 0 d 9", "none", "same d 9 d 0", "version", "same d 0 d 9", "version", "same d 0 d 0", "ok yes",
		"ask q d 9", "none", "ask d d 0", "none", "print p d 9", "none", "query q g num", "ok", "ask q e 0", "none", "ask q d 9", "version", "ask q q 0", "none",
	)
}
