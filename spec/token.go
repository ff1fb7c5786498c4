package spec

import (
	"strings"

	"graft/api"
)

// The kinds of tokens beside the signs; a sign's kind is its byte.
const (
	theEnd   = iota // the text's end
	notAny          // a byte that begins no token
	someWord        // a word
)

// token is what stands at a place of the text. A pattern is none: it is read only where one may stand.
type token struct {
	kind, at int
	word     string
}

// scanner goes through the tokens of a text.
type scanner struct {
	text string
	at   int // up to here it is read
}

// next reads a token, and the blanks and comments ahead of it.
func (s *scanner) next() token {
	s.comments()
	t := token{at: s.at}
	if s.at == len(s.text) {
		return t
	}
	t.kind = kindOf(s.text[s.at])
	s.at++
	if t.kind == someWord {
		s.at = t.at + wordLength(s.text[t.at:])
		t.word = strings.Clone(s.text[t.at:s.at]) // so that no answer keeps the text
	}
	return t
}

// wordLength tells how many bytes the word has with which a text begins; 0, if it begins with none.
func wordLength(text string) int {
	n := 0
	for n < len(text) && (letter(text[n]) || n > 0 && digit(text[n])) {
		n++
	}
	return n
}

// isName asks whether a text is one word that can be given to a rule or a nonterminal.
func isName(text string) bool {
	return text != "" && len(text) <= api.MaxName && wordLength(text) == len(text) && !reserved(text)
}

// kindOf tells what a byte begins.
func kindOf(c byte) int {
	switch {
	case letter(c):
		return someWord
	case c == '=' || c == '|' || c == ';':
		return int(c)
	}
	return notAny
}

// comments goes over blanks and comments.
func (s *scanner) comments() {
	s.blanks()
	for strings.HasPrefix(s.text[s.at:], "//") {
		for s.at < len(s.text) && s.text[s.at] != '\n' {
			s.at++
		}
		s.blanks()
	}
}

// blanks goes over blanks alone: where a pattern may stand there is no comment.
func (s *scanner) blanks() {
	for s.at < len(s.text) && strings.IndexByte("\t\n\r ", s.text[s.at]) >= 0 {
		s.at++
	}
}

// closing tells the place of the slash that ends the pattern that begins at a place; false, if none does, or the
// pattern has more than one line.
func (s *scanner) closing(open int) (int, bool) {
	for i := open + 1; i < len(s.text); i++ {
		switch s.text[i] {
		case '\\':
			i++
		case '/':
			return i, strings.IndexByte(s.text[open:i], '\n') < 0
		}
	}
	return 0, false
}

func letter(c byte) bool { return 'A' <= c && c <= 'Z' || 'a' <= c && c <= 'z' || c == '_' }

func digit(c byte) bool { return '0' <= c && c <= '9' }
