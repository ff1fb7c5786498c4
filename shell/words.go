package shell

import (
	"strconv"
	"strings"

	"graft/api"
)

const (
	blanks = " \t"
	rubout = 127 // above 31, and yet it may stand in no word
)

// Words tells the words of one line.
func Words(line string) ([]string, api.Errno) {
	if len(line) > api.MaxScript {
		return nil, api.ErrLong
	}
	var words []string
	for {
		line = strings.TrimLeft(line, blanks)
		if line == "" || line[0] == '#' {
			return words, api.OK
		}
		word, behind, ok := firstWord(line)
		if !ok {
			return nil, api.ErrCommand
		}
		words, line = append(words, word), behind
	}
}

// firstWord reads the word with which a text begins, and tells what stands behind it.
func firstWord(text string) (word, behind string, ok bool) {
	if text[0] == '"' {
		return quoted(text)
	}
	return bare(text)
}

// bare reads a bare word.
func bare(text string) (word, behind string, ok bool) {
	end := len(text)
reading:
	for at, r := range text {
		switch {
		case strings.ContainsRune(blanks, r):
			end = at
			break reading
		case r < ' ' || r == rubout || r == '"' || r == '\\':
			return "", "", false
		}
	}
	return strings.Clone(text[:end]), text[end:], true
}

// quoted reads a quoted word. Its bytes are taken by their places: a rune does not tell which ones were no UTF-8.
func quoted(text string) (word, behind string, ok bool) {
	var out []byte
	from, end := 1, -1 // what stands ahead of from is taken
reading:
	for at, r := range text {
		switch {
		case at < from: // the quote at the begin, or part of an escape
		case r == '"':
			end = at
			break reading
		case r == '\\':
			b, size := escape(text[at:])
			if size == 0 {
				break reading
			}
			out = append(append(out, text[from:at]...), b)
			from = at + size
		case r < ' ' || r == rubout:
			break reading
		}
	}
	if end < 0 || end+1 < len(text) && !strings.Contains(blanks, text[end+1:end+2]) {
		return "", "", false
	}
	return string(append(out, text[from:end]...)), text[end+1:], true
}

// escape tells what byte the escape stands for with which a text begins, and how many bytes it has: 0, if it is none.
func escape(text string) (b byte, size int) {
	if len(text) < 2 {
		return 0, 0
	}
	switch text[1] {
	case '\\', '"':
		return text[1], 2
	case 'n':
		return '\n', 2
	case 't':
		return '\t', 2
	case 'x':
		return hexadecimal(text[2:])
	}
	return 0, 0
}

// hexadecimal is escape for one with digits: they are the first two bytes of a text.
func hexadecimal(text string) (b byte, size int) {
	if len(text) < 2 {
		return 0, 0
	}
	n, err := strconv.ParseUint(text[:2], 16, 8)
	if err != nil {
		return 0, 0
	}
	return byte(n), 4
}

// Quote writes bytes as one word.
func Quote(b []byte) string {
	out := make([]byte, 0, len(b)+2)
	out = append(out, '"')
	for _, c := range b {
		out = appendQuoted(out, c)
	}
	return string(append(out, '"'))
}

// appendQuoted puts one byte of a quoted word behind others.
func appendQuoted(out []byte, c byte) []byte {
	const digits = "0123456789abcdef"
	switch {
	case c == '\\' || c == '"':
		return append(out, '\\', c)
	case c == '\n':
		return append(out, '\\', 'n')
	case c == '\t':
		return append(out, '\\', 't')
	case c < ' ' || c >= rubout:
		return append(out, '\\', 'x', digits[c>>4], digits[c&15])
	}
	return append(out, c)
}
