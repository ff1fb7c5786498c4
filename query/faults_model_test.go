package query_test

import (
	"slices"
	"strings"

	"graft/api"
)

// The model of P1402: the text is taken to tokens; which of them may stand is asked of P1401's table, written out as productions, by the items that can have come to each place.

// token is one of a query's text. Kinds: a sign, w a word, s a string, c a capture.
type token struct {
	kind byte
	at   int
	text string
	done bool // false: the text is wrong within it, or ends there
}

// table is P1401's: small letters and signs are tokens.
func table() []string {
	return []string{
		"Q=P", "Q=QP", "P=HCK", "C=", "C=CSs", "S==", "S=^", "S=-", "K=", "K=c", "H=_", "H=!", "H=$", "H=N", "H=(TAL)",
		"T=_", "T=!", "T=N", "A=", "A=AX", "X=DVP", "D=", "D=.", "V=", "V=~", "L=", "L=.", "N=w", "N=s",
	}
}

// itemAt is a production of the table, how much of it is passed, and where it began.
type itemAt struct {
	production, passed, from int
}

// viable tells how many of the tokens can stand, one behind the other, and whether they are a whole query.
func viable(kinds []byte) (int, bool) {
	rows := table()
	next := func(x itemAt) byte {
		if right := rows[x.production][2:]; x.passed < len(right) {
			return right[x.passed]
		}
		return 0
	}
	closed := func(sets [][]itemAt, set []itemAt) []itemAt {
		at := len(sets)
		sets = append(slices.Clip(sets), nil)
		for before := -1; before < len(set); {
			before = len(set)
			sets[at] = set
			for _, x := range set {
				if next(x) == 0 {
					for _, y := range sets[x.from] {
						if next(y) == rows[x.production][0] {
							set = with(set, itemAt{y.production, y.passed + 1, y.from})
						}
					}
				}
				for p, row := range rows {
					if row[0] == next(x) {
						set = with(set, itemAt{p, 0, at})
					}
				}
			}
		}
		return set
	}
	whole := func(set []itemAt) bool {
		return slices.Contains(set, itemAt{0, 1, 0}) || slices.Contains(set, itemAt{1, 2, 0})
	}
	sets := [][]itemAt{closed(nil, []itemAt{{0, 0, 0}, {1, 0, 0}})}
	for i, kind := range kinds {
		var set []itemAt
		for _, x := range sets[i] {
			if next(x) == kind {
				set = append(set, itemAt{x.production, x.passed + 1, x.from})
			}
		}
		if len(set) == 0 {
			return i, false
		}
		sets = append(sets, closed(sets, set))
	}
	return len(kinds), whole(sets[len(kinds)])
}

func with(set []itemAt, x itemAt) []itemAt {
	if slices.Contains(set, x) {
		return set
	}
	return append(set, x)
}

// tokensOf takes a text to tokens; the place is where it is wrong within the last one, or begins none; -1: nowhere.
func tokensOf(text string) (out []token, wrong int) {
	for at := 0; at < len(text); {
		c := text[at]
		switch {
		case strings.IndexByte(" \t\n\r", c) >= 0:
			at++
			continue
		case strings.IndexByte("()_!$.~=^-", c) >= 0:
			out = append(out, token{c, at, text[at : at+1], true})
			at++
		case isWord(text[at : at+1]):
			n := wordFront(text[at:])
			out = append(out, token{'w', at, text[at : at+n], true})
			at += n
		case c == '@':
			n := wordFront(text[at+1:])
			out = append(out, token{'c', at, text[at+1 : at+1+n], n > 0})
			if n == 0 {
				return out, at + 1
			}
			at += 1 + n
		case c == '"':
			value, end, bad := stringFront(text, at)
			out = append(out, token{'s', at, value, bad < 0})
			if bad >= 0 {
				return out, bad
			}
			at = end
		default:
			return out, at
		}
	}
	return out, -1
}

// wordFront tells how long the longest front is that is a word.
func wordFront(text string) (n int) {
	for n < len(text) && isWord(text[:n+1]) {
		n++
	}
	return n
}

// stringFront reads the string at a place: its value and its end, or where it is wrong.
func stringFront(text string, at int) (value string, end, bad int) {
	for i := at + 1; ; {
		rest := text[i:]
		switch {
		case rest == "":
			return "", 0, i
		case rest[0] == '"':
			return value, i + 1, -1
		case rest[0] != '\\' && (rest[0] < 32 || rest[0] > 126):
			return "", 0, i
		case rest[0] != '\\':
			value += rest[:1]
			i++
		case strings.HasPrefix(rest, `\"`) || strings.HasPrefix(rest, `\\`):
			value += rest[1:2]
			i += 2
		default:
			high, low := -1, -1
			if len(rest) > 2 {
				high = strings.IndexByte("0123456789abcdef", lower(rest[2]))
			}
			if len(rest) > 3 {
				low = strings.IndexByte("0123456789abcdef", lower(rest[3]))
			}
			switch {
			case rest == `\` || rest == `\x` || strings.HasPrefix(rest, `\x`) && len(rest) == 3 && high >= 0:
				return "", 0, len(text)
			case !strings.HasPrefix(rest, `\x`) || high < 0 || low < 0:
				return "", 0, i
			}
			value += string([]byte{byte(high<<4 | low)})
			i += 4
		}
	}
}

func lower(c byte) byte {
	if c >= 'A' && c <= 'Z' {
		return c + 32
	}
	return c
}

// faultOf is P1402's first fault.
func faultOf(s api.Spec, text string) api.Fault {
	if len(text) > api.MaxQuery {
		return api.Fault{Err: api.ErrLong}
	}
	tokens, wrong := tokensOf(text)
	var kinds []byte
	for _, x := range tokens {
		kinds = append(kinds, x.kind)
	}
	stand, whole := viable(kinds)
	out := api.Fault{}
	switch {
	case stand < len(tokens):
		out = api.Fault{Err: api.ErrQuery, At: tokens[stand].at}
	case wrong >= 0:
		out = api.Fault{Err: api.ErrQuery, At: wrong}
	case !whole:
		out = api.Fault{Err: api.ErrQuery, At: len(text)}
	}
	if f := saysWrong(s, tokens[:stand]); f.Err != api.OK && (out.Err == api.OK || f.At < out.At) {
		return f
	}
	return out
}

// saysWrong is the first fault of what tokens say that may all stand.
func saysWrong(s api.Spec, tokens []token) api.Fault {
	depth := 0
	var words []string
	for i, x := range tokens {
		ahead := byte(0)
		if i > 0 {
			ahead = tokens[i-1].kind
		}
		inCheck := ahead == '=' || ahead == '^' || ahead == '-'
		if depth == 0 && !inCheck && strings.IndexByte("_!$ws(", x.kind) >= 0 {
			words = nil // an outermost pattern begins
		}
		switch {
		case x.kind == '(':
			if depth++; depth > api.MaxNest {
				return api.Fault{Err: api.ErrNest, At: x.at}
			}
		case x.kind == ')':
			depth--
		case !x.done:
		case x.kind == 'c' && slices.Contains(words, x.text):
			return api.Fault{Err: api.ErrCapture, At: x.at}
		case x.kind == 'c':
			words = append(words, x.text)
		case inCheck || x.kind != 'w' && x.kind != 's':
		case ahead == '(' && !slices.Contains(s.Names, x.text):
			return api.Fault{Err: api.ErrQueryName, At: x.at}
		case ahead != '(' && !slices.ContainsFunc(s.Lex, func(l api.LexRule) bool { return l.Name == x.text && !l.Trivia }):
			return api.Fault{Err: api.ErrQueryName, At: x.at}
		}
	}
	return api.Fault{}
}
