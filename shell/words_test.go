package shell_test

import (
	"fmt"
	"math/rand"
	"slices"
	"strings"
	"testing"

	"graft/api"
	"graft/shell"
)

// TestWordsOfLines is P2001: each kind of word, blank and comment, as the chapter says it.
func TestWordsOfLines(t *testing.T) {
	for _, c := range []struct {
		line string
		want []string
	}{
		{"", nil}, {" ", nil}, {"\t", nil}, {" \t\t  ", nil}, {"#", nil}, {"# x \"", nil}, {"  #\\", nil}, {"\t#\x00\n\x7f\xff", nil}, {"#\ra b", nil},
		{"a", list("a")}, {"ab", list("ab")}, {" a", list("a")}, {"a ", list("a")}, {"\ta\t", list("a")}, {"a b", list("a", "b")}, {"a \t  b\tc", list("a", "b", "c")}, {"   a   b   ", list("a", "b")},
		{"a#", list("a#")}, {"a#b c", list("a#b", "c")}, {"a # b", list("a")}, {"a #", list("a")}, {"a\t#b", list("a")}, {"a##", list("a##")}, {"a b#c # d", list("a", "b#c")},
		{`""`, list("")}, {`"" ""`, list("", "")}, {` ""	"" `, list("", "")}, {`"a"`, list("a")}, {`"a b"`, list("a b")}, {`" "`, list(" ")}, {`"a" b "c d"`, list("a", "b", "c d")}, {`"#"`, list("#")}, {`"a # b" #`, list("a # b")}, {`"a" # "`, list("a")}, {`"a" #b`, list("a")},
		{`"\\"`, list("\\")}, {`"\""`, list("\"")}, {`"\n"`, list("\n")}, {`"\t"`, list("\t")}, {`"\x00"`, list("\x00")}, {`"\xff"`, list("\xff")}, {`"\xFF"`, list("\xff")}, {`"\xaF\xFa"`, list("\xaf\xfa")}, {`"\x09\x10"`, list("\x09\x10")}, {`"\x7f\x22\x5c"`, list("\x7f\"\\")}, {`"\x412"`, list("A2")},
		{`"\\\\"`, list("\\\\")}, {`"\\n"`, list("\\n")}, {`"\\\n"`, list("\\\n")}, {`"a\"b"`, list("a\"b")}, {`"\"\"" "\\"`, list("\"\"", "\\")}, {`"\\x41"`, list("\\x41")},
		{"\x80", list("\x80")}, {"\xff\xfe", list("\xff\xfe")}, {"a\xe9b \xc3\xa9", list("a\xe9b", "é")}, {"é 世界 \U0010ffff", list("é", "世界", "\U0010ffff")}, {"\xe4\xb8 \x96", list("\xe4\xb8", "\x96")}, {"\xef\xbf\xbd \xef\xbf", list("\ufffd", "\xef\xbf")}, {"\xed\xa0\x80", list("\xed\xa0\x80")}, {"\xc0\xa0\xc1\x81", list("\xc0\xa0\xc1\x81")},
		{"\"\x80\"", list("\x80")}, {"\"\xff\xfe é\"", list("\xff\xfe é")}, {"\"\xe4\xb8\\xff\x96\"", list("\xe4\xb8\xff\x96")}, {"\"\xef\xbf\xbd\\\\\xef\"", list("\ufffd\\\xef")},
		{"\xc2\xa0", list("\xc2\xa0")}, {"a\xc2\xa0b", list("a\xc2\xa0b")}, {"\u2003a", list("\u2003a")}, {"a\u2028b", list("a\u2028b")}, {"\u0085", list("\u0085")}, {"'a b'", list("'a", "b'")}, {"!$%&/()=?*+~-.,;:<>|{}[]@^_`", list("!$%&/()=?*+~-.,;:<>|{}[]@^_`")},
		{"-1 +1 007", list("-1", "+1", "007")},
	} {
		if got, err := wantWords(t, c.line); err != api.OK || !slices.Equal(got, c.want) {
			t.Errorf("P2001: %q: %q %v, not %q", c.line, got, err, c.want)
		}
	}
}

// list is a list of texts.
func list(words ...string) []string { return words }

// TestWordsRefused is P2001: what is not words and blanks.
func TestWordsRefused(t *testing.T) {
	for _, line := range []string{
		`"`, `"a`, ` "a b`, `a "`, `"a" "`, `""a`, `"a"b`, `"a""b"`, `""""`, `""""""`, `"a"#`, `"a"#b`, `""\`, `a"`, `a"b"`, `a""`, `a"b`, `a\`, `\`, `\n`, `a\nb`, `\"a"`, `\\`,
		`"\"`, `"\`, `"a\`, `"\q"`, `"\N"`, `"\T"`, `"\X41"`, `"\0"`, `"\'"`, `"\ "`, `"\	"`, "\"\\\xc3\xa9\"", "\"\\\x00\"", `"\x"`, `"\x`, `"\x4`, `"\x4"`, `"\x4" a"`, `"\x41`, `"\xg0"`, `"\x0g"`, `"\x 1"`, `"\x1 "`, `"\x-1"`, `"\x+1"`, `"\x_1"`, `"\x0x"`, `"\x4` + "\xc3\xa9" + `"`, `"\x` + "\xff\xff" + `"`, `"\x:0"`, `"\x0/"`, `"\x@0"`, "\"\\x`0\"", `"\xG0"`,
		"a\nb", "a\n", "\n", "\r", "a\r", "a \r", "\r#", "a\rb", "\"a\"\r", "\x00", "a\x00", " \x01 ", "\x7f", "a\x7fb", "\x1f", "\v", "\f", "a \v b", "\"\x7f\"", "\"\n\"", "\"\t\"", "\"a\tb\"", "\"\x1f\"", "\"\x00\"",
		"a \x01 # b", "a\x01# b", "\xff\x01", "\"\xff\x01\"",
	} {
		got, err := wantWords(t, line)
		if err != api.ErrCommand || len(got) > 0 {
			t.Errorf("P2001: %q: %q %v", line, got, err)
		}
		for _, ahead := range []string{" ", "a ", `"" `} { // wherever it stands
			if got, err := wantWords(t, ahead+line); err != api.ErrCommand || len(got) > 0 {
				t.Errorf("P2001: %q: %q %v", ahead+line, got, err)
			}
		}
		if got, err := wantWords(t, "a #"+line); err != api.OK || !slices.Equal(got, list("a")) {
			t.Errorf("P2001: %q in a comment: %q %v", line, got, err)
		}
	}
}

// TestEveryByte is P2001: each byte where a word could begin, within a bare word, in a quoted one, behind one, in an escape, in a comment.
func TestEveryByte(t *testing.T) {
	for n := range 256 {
		c := string([]byte{byte(n)})
		blank, low := n == 32 || n == 9, n < 32 || n == 127
		bareOK := !low && n != '"' && n != '\\' || blank
		for _, x := range []struct {
			what, line string
			ok         bool
			want       []string
		}{
			{"at a word's begin", c, bareOK, pick(blank || n == '#', nil, list(c))},
			{"behind a blank", "a " + c, bareOK, pick(blank || n == '#', list("a"), list("a", c))},
			{"within a bare word", "a" + c + "b", bareOK, pick(blank, list("a", "b"), list("a"+c+"b"))},
			{"at a bare word's end", "a" + c, bareOK, pick(blank, list("a"), list("a"+c))},
			{"in quotes", `"a` + c + `b"`, !low && n != '"' && n != '\\', list("a" + c + "b")},
			{"behind quotes", `"a"` + c, blank, list("a")},
			{"behind quotes, and a word", `"a"` + c + "b", blank, list("a", "b")},
			{"in a comment", "a #" + c + `"`, true, list("a")},
			{"in a comment alone", "#" + c, true, nil},
		} {
			got, err := wantWords(t, x.line)
			if !x.ok && (err != api.ErrCommand || len(got) > 0) || x.ok && (err != api.OK || !slices.Equal(got, x.want)) {
				t.Errorf("P2001: the byte %d %s: %q %v, not %v %q", n, x.what, got, err, x.ok, x.want)
			}
		}
		means, ok := map[byte]string{'\\': "\\", '"': "\"", 'n': "\n", 't': "\t"}[byte(n)]
		if got, err := wantWords(t, `"\`+c+`"`); ok && (err != api.OK || !slices.Equal(got, list(means))) || !ok && err != api.ErrCommand {
			t.Errorf("P2001: the escape of %d: %q %v", n, got, err)
		}
		digit := strings.Contains("0123456789abcdefABCDEF", c)
		for _, line := range []string{`"\x` + c + `0"`, `"\x0` + c + `"`} {
			if _, err := wantWords(t, line); (err == api.OK) != digit {
				t.Errorf("P2001: %q: %v", line, err)
			}
		}
		for _, form := range []string{`"\x%02x"`, `"\x%02X"`} {
			if got, err := shell.Words(fmt.Sprintf(form, n)); err != api.OK || !slices.Equal(got, list(c)) {
				t.Errorf("P2001: "+form+": %q %v", n, got, err)
			}
		}
	}
}

func pick(first bool, a, b []string) []string {
	if first {
		return a
	}
	return b
}

// TestShortLines is P2001 of all lines of a few bytes, of such as mean something.
func TestShortLines(t *testing.T) {
	signs := " \"\\xn4#a\x01\xff"
	const most = 5
	var right, wrong int
	line := make([]byte, 0, most)
	var grow func()
	grow = func() {
		if _, err := wantWords(t, string(line)); err == api.OK {
			right++
		} else {
			wrong++
		}
		if len(line) == most {
			return
		}
		for i := range len(signs) {
			line = append(line, signs[i])
			grow()
			line = line[:len(line)-1]
		}
	}
	grow()
	if right < 1000 || wrong < 1000 {
		t.Errorf("%d right, %d wrong", right, wrong)
	}
}

// drawnLine is a line of words, blanks, comments, and at times what is none.
func drawnLine(r *rand.Rand) string {
	var out strings.Builder
	for range r.Intn(8) {
		switch r.Intn(12) {
		case 0, 1, 2:
			out.WriteString(strings.Repeat(" \t"[r.Intn(2):][:1], 1+r.Intn(3)))
		case 3, 4:
			out.WriteString([]string{"a", "ab", "-1", "a#b", "\xff", "é", "\xe4\xb8", "x#"}[r.Intn(8)] + " ")
		case 5, 6, 7:
			out.WriteString(drawnQuoted(r))
			if r.Intn(8) > 0 {
				out.WriteByte(" \t"[r.Intn(2)])
			}
		case 8:
			b := make([]byte, r.Intn(5))
			r.Read(b)
			out.Write(b)
			out.WriteByte(' ')
		case 9:
			if r.Intn(2) == 0 {
				b := make([]byte, r.Intn(9))
				r.Read(b)
				out.WriteString("#" + string(b))
			}
		case 10:
			if r.Intn(3) == 0 {
				out.WriteByte("\"\\\x00\x1f\x7f\n\r"[r.Intn(7)])
			}
		case 11:
			b := make([]byte, 1+r.Intn(4))
			for i := range b {
				b[i] = byte(128 + r.Intn(128))
			}
			out.Write(b)
		}
	}
	return out.String()
}

// drawnQuoted is a quoted word with escapes, at times with one that is none.
func drawnQuoted(r *rand.Rand) string {
	out := `"`
	for range r.Intn(6) {
		switch r.Intn(9) {
		case 0, 1:
			out += []string{`\\`, `\"`, `\n`, `\t`}[r.Intn(4)]
		case 2:
			out += fmt.Sprintf([]string{`\x%02x`, `\x%02X`}[r.Intn(2)], r.Intn(256))
		case 3:
			out += string([]byte{byte(128 + r.Intn(128))})
		case 4:
			if r.Intn(6) == 0 {
				out += []string{`\`, `\x`, `\x4`, `\q`, "\x01", "\x7f", "\t", `"`}[r.Intn(8)]
			}
		default:
			out += []string{"a", " ", "#", "é", "x41", "n"}[r.Intn(6)]
		}
	}
	return out + `"`
}

// TestDrawnLines is P2001 of many lines, held against the chapter's words alone.
func TestDrawnLines(t *testing.T) {
	r := rand.New(rand.NewSource(2001))
	var met [8]int // by how many words
	var wrong int
	for range 60000 {
		words, err := wantWords(t, drawnLine(r))
		if err != api.OK {
			wrong++
		} else {
			met[min(len(words), 7)]++
		}
	}
	if wrong < 5000 || slices.Min(met[:6]) < 300 {
		t.Errorf("%d wrong, by words %v", wrong, met)
	}
}

// TestLongLines is P2001's bound: MaxScript bytes, and one more, whatever the line is.
func TestLongLines(t *testing.T) {
	for _, c := range []struct {
		line string // but for what fills it
		fill string
		err  api.Errno
		want int // words
	}{
		{"", "x", api.OK, 1}, {"", " ", api.OK, 0}, {"", "\t", api.OK, 0}, {"", "#", api.OK, 0}, {"#", "\x00", api.OK, 0}, {"a #", "\"", api.OK, 1}, {"", "\xff", api.OK, 1}, {"", "a ", api.OK, 32768}, {"", `""` + "\t ", api.OK, 16384},
		{"", "\x00", api.ErrCommand, 0}, {`"`, "x", api.ErrCommand, 0}, {"", "\\", api.ErrCommand, 0}, {"\n", " ", api.ErrCommand, 0}, {`""`, "x", api.ErrCommand, 0}, {"", `"`, api.ErrCommand, 0},
	} {
		full := c.line + strings.Repeat(c.fill, 2*api.MaxScript)
		if got, err := wantWords(t, full[:api.MaxScript]); err != c.err || len(got) != c.want {
			t.Errorf("P2001: %.10q, %d bytes: %d words, %v", full, api.MaxScript, len(got), err)
		}
		for _, more := range []int{1, 2, 100, api.MaxScript} {
			if got, err := wantWords(t, full[:api.MaxScript+more]); err != api.ErrLong || len(got) > 0 {
				t.Errorf("P2001: %.10q, %d bytes more: %d words, %v", full, more, len(got), err)
			}
		}
	}
	word := strings.Repeat("y", api.MaxScript-2)
	if got, err := wantWords(t, `"`+word+`"`); err != api.OK || !slices.Equal(got, list(word)) {
		t.Errorf("P2001: %d words, %v", len(got), err)
	}
	if _, err := wantWords(t, `"`+word+`y"`); err != api.ErrLong {
		t.Errorf("P2001: %v", err)
	}
}
