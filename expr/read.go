package expr

import (
	"strings"

	"graft/api"
)

// signs are the bytes that stand for something else than themselves, or for nothing, outside of classes.
const signs = `()[]{}.|*+?\/^$`

// classSigns are those within classes; a ^ is one only directly behind the [.
const classSigns = `]\-/`

// reader reads a pattern's text from the left. Behind the first fault it stands at the text's end, so that all its loops end.
type reader struct {
	text  string
	at    int
	fault api.Fault
}

// fail keeps the first fault alone.
func (r *reader) fail(err api.Errno, at int) {
	if r.fault.Err == api.OK {
		r.fault = api.Fault{Err: err, At: at}
	}
	r.at = len(r.text)
}

// wrong is the fault of what stands here: a byte, or the text's end.
func (r *reader) wrong() {
	if r.at == len(r.text) {
		r.fail(api.ErrEnds, r.at)
		return
	}
	r.fail(api.ErrPattern, r.at)
}

// peek tells the byte that stands here; at the text's end 0, which no rule takes.
func (r *reader) peek() byte {
	if r.at == len(r.text) {
		return 0
	}
	return r.text[r.at]
}

// take goes over a byte, if it is the one that stands here.
func (r *reader) take(c byte) bool {
	if r.peek() != c {
		return false
	}
	r.at++
	return true
}

// whole reads all of the text.
func (r *reader) whole() api.Expr {
	e := r.pattern()
	if r.at < len(r.text) {
		r.wrong()
	}
	return e
}

func (r *reader) pattern() api.Expr {
	rows := []api.Expr{r.row()}
	for r.take('|') {
		rows = append(rows, r.row())
	}
	if len(rows) == 1 {
		return rows[0]
	}
	return api.Expr{Kind: api.XAlt, List: rows}
}

func (r *reader) row() api.Expr {
	var parts []api.Expr
	for r.at < len(r.text) && r.peek() != '|' && r.peek() != ')' {
		parts = append(parts, r.times(r.atom()))
	}
	if len(parts) == 1 {
		return parts[0]
	}
	return api.Expr{Kind: api.XSeq, List: parts}
}

func (r *reader) atom() api.Expr {
	switch c := r.peek(); {
	case c == '\\':
		return single(r.escape())
	case c == '[':
		return r.class()
	case r.take('.'):
		return api.Expr{Kind: api.XRange, From: 0, To: 255}
	case r.take('('):
		e := r.pattern()
		if !r.take(')') {
			r.wrong()
		}
		return e
	case plain(c):
		r.at++
		return single(int(c))
	}
	r.wrong()
	return api.Expr{}
}

// times reads what says how often e may stand.
func (r *reader) times(e api.Expr) api.Expr {
	for {
		switch {
		case r.take('*'):
			e = repeat(e, 0, -1)
		case r.take('+'):
			e = repeat(e, 1, -1)
		case r.take('?'):
			e = repeat(e, 0, 1)
		case r.peek() == '{':
			least, most := r.braces()
			e = repeat(e, least, most)
		default:
			return e
		}
	}
}

// braces asks what the numbers are only behind the }: till then the form alone may be wrong.
func (r *reader) braces() (least, most int) {
	open := r.at
	r.at++
	least = r.number()
	most = least
	if r.take(',') {
		most = -1
		if r.peek() != '}' {
			most = r.number()
		}
	}
	if !r.take('}') {
		r.wrong()
		return 0, 0
	}
	if !rightTimes(least, most) {
		r.fail(api.ErrBraces, open)
	}
	return least, most
}

// number reads one to four digits.
func (r *reader) number() int {
	n, from := 0, r.at
	for r.at < from+4 && digit(r.peek()) {
		n = n*10 + int(r.peek()-'0')
		r.at++
	}
	if r.at == from {
		r.wrong()
	}
	return n
}

// class tells a class without a byte only behind the ]: ahead of it there is no class yet.
func (r *reader) class() api.Expr {
	open := r.at
	r.at++
	not := r.take('^')
	members := []api.Expr{r.member(open)}
	for r.fault.Err == api.OK && !r.take(']') {
		members = append(members, r.member(open))
	}
	if not {
		members = others(members)
	}
	switch len(members) {
	case 0:
		r.fail(api.ErrPattern, open)
		return api.Expr{}
	case 1:
		return members[0]
	}
	return api.Expr{Kind: api.XAlt, List: members}
}

func (r *reader) member(open int) api.Expr {
	from := r.one()
	to := from
	if r.take('-') {
		to = r.one()
	}
	if to < from {
		r.fail(api.ErrPattern, open)
	}
	return api.Expr{Kind: api.XRange, From: from, To: to}
}

func (r *reader) one() int {
	c := r.peek()
	if c == '\\' {
		return r.escape()
	}
	if !printed(c) || strings.IndexByte(classSigns, c) >= 0 {
		r.wrong()
		return 0
	}
	r.at++
	return int(c)
}

func (r *reader) escape() int {
	open := r.at
	r.at++
	c := r.peek()
	switch {
	case r.at == len(r.text):
		r.wrong()
		return 0
	case r.take('n'):
		return '\n'
	case r.take('r'):
		return '\r'
	case r.take('t'):
		return '\t'
	case r.take('x'):
		high := r.hex(open)
		return high<<4 | r.hex(open)
	case c == ' ' || !printed(c) || letter(c) || digit(c):
		r.fail(api.ErrPattern, open)
		return 0
	}
	r.at++
	return int(c)
}

// hex reads a digit of the escape that begins at open.
func (r *reader) hex(open int) int {
	c := r.peek()
	if r.at == len(r.text) {
		r.wrong()
		return 0
	}
	r.at++
	switch {
	case digit(c):
		return int(c - '0')
	case 'a' <= c && c <= 'f':
		return int(c-'a') + 10
	case 'A' <= c && c <= 'F':
		return int(c-'A') + 10
	}
	r.fail(api.ErrPattern, open)
	return 0
}

func single(c int) api.Expr { return api.Expr{Kind: api.XRange, From: c, To: c} }

func repeat(e api.Expr, least, most int) api.Expr {
	return api.Expr{Kind: api.XRepeat, Min: least, Max: most, List: []api.Expr{e}}
}

// others are the bytes that no member names, as the fewest ranges.
func others(members []api.Expr) []api.Expr {
	var named [256]bool
	for _, m := range members {
		for c := m.From; c <= m.To; c++ {
			named[c] = true
		}
	}
	var rest []api.Expr
	for c := range named {
		switch {
		case named[c]:
		case c > 0 && !named[c-1]:
			rest[len(rest)-1].To = c
		default:
			rest = append(rest, single(c))
		}
	}
	return rest
}

func printed(c byte) bool { return 32 <= c && c <= 126 }

func plain(c byte) bool { return printed(c) && strings.IndexByte(signs, c) < 0 }

func digit(c byte) bool { return '0' <= c && c <= '9' }

func letter(c byte) bool { return 'a' <= c && c <= 'z' || 'A' <= c && c <= 'Z' }
