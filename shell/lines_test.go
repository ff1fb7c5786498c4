package shell_test

import (
	"strings"
	"testing"

	"graft/api"
	"graft/shell"
)

// TestLines is P2003: lines with and without a byte 10 behind the last, empty ones, ones of blanks and comments alone.
func TestLines(t *testing.T) {
	for _, c := range []struct{ script, want string }{
		{"", ""}, {"\n", "\n"}, {"\n\n", "\n\n"}, {" ", "\n"}, {" \n", "\n"}, {" \n ", "\n\n"}, {"\t \n\n  # x\n", "\n\n\n"}, {"#", "\n"}, {"#\n#", "\n\n"},
		{"x", "command\n"}, {"x\n", "command\n"}, {"x\n\n", "command\n\n"}, {"\nx", "\ncommand\n"}, {"x\nx", "command\ncommand\n"}, {"x\n\nx\n", "command\n\ncommand\n"},
		{"bytes b x", "ok 1\n"}, {"bytes b x\n", "ok 1\n"}, {"bytes b x # bytes\n#bytes b x\n  bytes\tb  xy\t\n", "ok 1\n\nok 2\n"}, {"bytes b #x", "command\n"}, {"bytes b x#y", "ok 3\n"}, {"bytes b \"#\"", "ok 1\n"},
		{"\r", "command\n"}, {"\r\n", "command\n"}, {"\n\r", "\ncommand\n"}, {"bytes b x\r\n", "command\n"}, {"bytes b x \r\n", "command\n"}, {"bytes b x #\r\n", "ok 1\n"}, {"#\r\n\n", "\n\n"}, {" \r", "command\n"}, {"bytes b \"x\r\"", "command\n"},
		{"bytes b \"x\ny\"\n", "command\ncommand\n"}, {"bytes b \"a\\\nb\"", "command\ncommand\n"}, {"bytes b \"x\\ny\"\n", "ok 3\n"}, {"\x00", "command\n"}, {"\v\n\f", "command\ncommand\n"}, {"\u2028", "command\n"}, {"\u0085\n", "command\n"},
	} {
		if got := shell.Run(c.script); got != c.want {
			t.Errorf("P2003: %q: %q, not %q", c.script, got, c.want)
		}
		wantRun(t, c.script)
	}
}

// TestLongScripts is P2003's first bounds: MaxScript bytes and MaxLines lines, and one more of each, whatever they hold.
func TestLongScripts(t *testing.T) {
	line := "bytes b x\n"
	for _, c := range []struct{ what, script, want string }{
		{"a line of blanks", strings.Repeat(" ", api.MaxScript), "\n"},
		{"a byte more", strings.Repeat(" ", api.MaxScript+1), "long\n"},
		{"a comment", "#" + strings.Repeat("\x00", api.MaxScript-1), "\n"},
		{"a longer one", "#" + strings.Repeat("\x00", api.MaxScript), "long\n"},
		{"a bare word", "bytes b " + strings.Repeat("x", api.MaxScript-8), "ok 65528\n"},
		{"a longer one", "bytes b " + strings.Repeat("x", api.MaxScript-7), "long\n"},
		{"no command", strings.Repeat("x", api.MaxScript), "command\n"},
		{"a longer one", strings.Repeat("x", api.MaxScript+1), "long\n"},
		{"the bytes 10 count", line + strings.Repeat(" ", api.MaxScript-len(line)-1) + "\n", "ok 1\n\n"},
		{"and the last one too", line + strings.Repeat(" ", api.MaxScript-len(line)) + "\n", "long\n"},
		{"far longer", strings.Repeat(line, api.MaxScript), "long\n"},
		{"as many lines as may be", strings.Repeat(line, api.MaxLines), strings.Repeat("ok 1\n", api.MaxLines)},
		{"the last one without its end", strings.Repeat(line, api.MaxLines)[:api.MaxLines*len(line)-1], strings.Repeat("ok 1\n", api.MaxLines)},
		{"one more", strings.Repeat(line, api.MaxLines+1), "long\n"},
		{"one more without its end", strings.Repeat(line, api.MaxLines) + "#", "long\n"},
		{"one more, of a blank", strings.Repeat(line, api.MaxLines) + " ", "long\n"},
		{"one more, empty", strings.Repeat(line, api.MaxLines) + "\n", "long\n"},
		{"empty ones", strings.Repeat("\n", api.MaxLines), strings.Repeat("\n", api.MaxLines)},
		{"one more of these", strings.Repeat("\n", api.MaxLines+1), "long\n"},
		{"and something without an end", strings.Repeat("\n", api.MaxLines) + "x", "long\n"},
		{"ends between, something behind", strings.Repeat("\n", api.MaxLines-1) + "x", strings.Repeat("\n", api.MaxLines-1) + "command\n"},
		{"both bounds", strings.Repeat("\n", api.MaxScript), "long\n"},
		{"both bounds passed", strings.Repeat("\n", api.MaxScript+1), "long\n"},
	} {
		if got := shell.Run(c.script); got != c.want {
			t.Errorf("P2003: %s: %.60q, not %.60q", c.what, got, c.want)
		}
		wantRun(t, c.script)
	}
}

// filling are lines whose answers have so many bytes together: texts of bytes that are told with four each, and at last one that fills it. It tells how many bytes there are ahead of that.
func filling(t testing.TB, size int) (lines []string, ahead int) {
	t.Helper()
	lines = []string{lang("g", ten), "open d g " + strings.Repeat("\xff", 48000), "open e g " + strings.Repeat("\xff", 4000), `open f g ""`}
	most, less := len(`ok ""`)+4*48000+1, len(`ok ""`)+4*4000+1
	left := size - 4*len("ok\n") - len("ok 1\n")
	for ; left > 2*most; left -= most {
		lines = append(lines, "text d 0")
	}
	for ; left > 2*less; left -= less {
		lines = append(lines, "text e 0")
	}
	fits := left - len(`ok ""`) - 1
	if fits < 0 || fits > 2*less {
		t.Fatal(fits)
	}
	return append(lines, "edit f 0 0 0 "+strings.Repeat("\xff", fits/4)+strings.Repeat("y", fits%4), "text f 1"), size - left
}

// TestMostAnswers is P2003's last sentence: answers of MaxPack bytes are told; where one more would stand, that line's answer is long, and that of every line behind it, which is not done.
func TestMostAnswers(t *testing.T) {
	t.Parallel()
	behind := []string{"edit d 0 0 48000 1;", "", "# x", "\x00", "frob", "text none 0", "bytes b x"}
	most, _ := filling(t, api.MaxPack)
	got := shell.Run(script(most...))
	if len(got) != api.MaxPack || strings.Contains(got, "long") || strings.Count(got, "\n") != len(most) {
		t.Fatalf("P2003: %d bytes, %.100q", len(got), got)
	}
	if more := shell.Run(script(append(most, behind...)...)); more != got+strings.Repeat("long\n", len(behind)) {
		t.Errorf("P2003: behind MaxPack bytes: %.100q", more[len(got):])
	}
	for _, more := range []int{1, 2, 3, 4000} {
		lines, ahead := filling(t, api.MaxPack+more)
		got := shell.Run(script(append(lines, behind...)...))
		if want := strings.Repeat("long\n", 1+len(behind)); len(got) != ahead+len(want) || got[ahead:] != want || strings.Index(got, "long") != ahead {
			t.Errorf("P2003: with %d bytes more: %d, not %d and %q", more, len(got), ahead, want)
		}
	}
	for less, want := range map[int]string{0: "long", 1: "\nlong", 2: "\n\nlong", 6: "\n\nlong", 7: "\n\nok 1\nlong", 8: "\n\nok 1\n\nlong"} { // room for some of what is behind
		lines, _ := filling(t, api.MaxPack-less)
		got := shell.Run(script(append(lines, "", "", "bytes b x", "", "x")...))
		want += strings.Repeat("\nlong", 4-strings.Count(want, "\n")) + "\n"
		if got[api.MaxPack-less:] != want {
			t.Errorf("P2003: with %d bytes fewer: %q, not %q", less, got[api.MaxPack-less:], want)
		}
	}
}
