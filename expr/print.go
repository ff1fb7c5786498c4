package expr

import (
	"strconv"
	"strings"

	"graft/api"
)

// write puts a pattern's text behind what stands in out.
func write(out []byte, e api.Expr) []byte {
	switch {
	case e.Kind == api.XRange:
		return writeRange(out, e)
	case e.Kind == api.XRepeat:
		return writeTimes(writePart(out, e.List[0], e.Kind), e.Min, e.Max)
	case isClass(e):
		return writeClass(out, e.List)
	}
	for i, part := range e.List {
		if i > 0 && e.Kind == api.XAlt {
			out = append(out, '|')
		}
		out = writePart(out, part, e.Kind)
	}
	return out
}

// writePart writes a part of a pattern of that kind.
func writePart(out []byte, part api.Expr, in int) []byte {
	if !bracketed(part, in) {
		return write(out, part)
	}
	out = write(append(out, '('), part)
	return append(out, ')')
}

// bracketed asks whether a part would be read as something else without brackets.
func bracketed(part api.Expr, in int) bool {
	switch part.Kind {
	case api.XAlt:
		return !isClass(part)
	case api.XSeq:
		return in != api.XAlt || len(part.List) == 0
	}
	return false
}

// isClass asks whether e is an XAlt that is written without |.
func isClass(e api.Expr) bool {
	if e.Kind != api.XAlt {
		return false
	}
	for _, part := range e.List {
		if part.Kind != api.XRange {
			return false
		}
	}
	return true
}

func writeRange(out []byte, e api.Expr) []byte {
	switch {
	case e.From == e.To:
		return writeByte(out, byte(e.From), signs)
	case e.From == 0 && e.To == 255:
		return append(out, '.')
	}
	return writeClass(out, []api.Expr{e})
}

func writeClass(out []byte, members []api.Expr) []byte {
	const escaped = classSigns + "^" // a ^ everywhere, that its text does not hang on its place
	out = append(out, '[')
	for _, m := range members {
		out = writeByte(out, byte(m.From), escaped)
		if m.From < m.To {
			out = writeByte(append(out, '-'), byte(m.To), escaped)
		}
	}
	return append(out, ']')
}

// writeByte writes a byte, as an escape if it is among the escaped ones or not to be seen.
func writeByte(out []byte, c byte, escaped string) []byte {
	const digits = "0123456789abcdef"
	switch {
	case c == '\n':
		return append(out, `\n`...)
	case c == '\r':
		return append(out, `\r`...)
	case c == '\t':
		return append(out, `\t`...)
	case !printed(c):
		return append(out, '\\', 'x', digits[c>>4], digits[c&15])
	case strings.IndexByte(escaped, c) >= 0:
		return append(out, '\\', c)
	}
	return append(out, c)
}

func writeTimes(out []byte, least, most int) []byte {
	switch {
	case least == 0 && most == -1:
		return append(out, '*')
	case least == 1 && most == -1:
		return append(out, '+')
	case least == 0 && most == 1:
		return append(out, '?')
	}
	out = strconv.AppendInt(append(out, '{'), int64(least), 10)
	if most != least {
		out = append(out, ',')
	}
	if most != least && most != -1 {
		out = strconv.AppendInt(out, int64(most), 10)
	}
	return append(out, '}')
}
