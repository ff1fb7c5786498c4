package query

import (
	"strings"

	"graft/api"
)

// theEnd is what stands at the text's end.
const theEnd = -1

// scanner goes through the bytes of a query's text, and throws the first fault.
type scanner struct {
	text string
	at   int // up to here it is read
}

// caught tells the fault that a walk throws, if it throws one.
func caught(walk func()) (f api.Fault) {
	defer func() {
		if thrown := recover(); thrown != nil {
			f = thrown.(api.Fault)
		}
	}()
	walk()
	return api.Fault{}
}

// fail throws a fault, for caught to tell.
func fail(err api.Errno, at int) { panic(api.Fault{Err: err, At: at}) }

// wrong is the fault of a byte that may not stand where it does, and of a text that ends there.
func (s *scanner) wrong() { fail(api.ErrQuery, s.at) }

// peek is the byte that stands next.
func (s *scanner) peek() int {
	if s.at == len(s.text) {
		return theEnd
	}
	return int(s.text[s.at])
}

// blanks goes over blanks.
func (s *scanner) blanks() {
	for s.at < len(s.text) && strings.IndexByte("\t\n\r ", s.text[s.at]) >= 0 {
		s.at++
	}
}

// take goes over a sign and the blanks behind it, if it stands next.
func (s *scanner) take(sign int) bool {
	if s.peek() != sign {
		return false
	}
	s.at++
	s.blanks()
	return true
}

// word reads a word.
func (s *scanner) word() string {
	n := wordLength(s.text[s.at:])
	if n == 0 {
		s.wrong()
	}
	s.at += n
	return strings.Clone(s.text[s.at-n : s.at]) // so that no query keeps the text
}

// wordLength tells how many bytes the word has with which a text begins; 0, if it begins with none.
func wordLength(text string) int {
	n := 0
	for n < len(text) && (letter(text[n]) || n > 0 && (digit(text[n]) || text[n] == '_')) {
		n++
	}
	return n
}

// quote reads a string.
func (s *scanner) quote() string {
	if s.peek() != '"' {
		s.wrong()
	}
	s.at++
	var b []byte
	for s.peek() != '"' {
		b = append(b, s.letter())
	}
	s.at++
	return string(b)
}

// letter reads a byte of a string as it is written.
func (s *scanner) letter() byte {
	c := s.peek()
	switch {
	case c == '\\':
		return s.escape()
	case !printable(c):
		s.wrong()
	}
	s.at++
	return byte(c)
}

// escape reads a byte that is written by a backslash.
func (s *scanner) escape() byte {
	from := s.at
	s.at++
	switch c := s.peek(); c {
	case '"', '\\':
		s.at++
		return byte(c)
	case 'x':
		s.at++
		high := s.half(from)
		return high<<4 | s.half(from)
	}
	s.wrongEscape(from)
	return 0
}

// half reads a hexadecimal digit of the escape that begins at a place.
func (s *scanner) half(from int) byte {
	c := s.peek()
	s.at++
	switch {
	case '0' <= c && c <= '9':
		return byte(c - '0')
	case 'a' <= c && c <= 'f':
		return byte(c - 'a' + 10)
	case 'A' <= c && c <= 'F':
		return byte(c - 'A' + 10)
	}
	s.at--
	s.wrongEscape(from)
	return 0
}

// wrongEscape is told at the backslash; but a text that ends within its escape is right so far.
func (s *scanner) wrongEscape(from int) {
	if s.peek() == theEnd {
		s.wrong()
	}
	fail(api.ErrQuery, from)
}

func letter(c byte) bool { return 'A' <= c && c <= 'Z' || 'a' <= c && c <= 'z' }

func digit(c byte) bool { return '0' <= c && c <= '9' }
