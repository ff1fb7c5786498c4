package query

import (
	"slices"

	"graft/api"
)

// reader reads a query's text from the left.
type reader struct {
	scanner
	spec   api.Spec
	lefts  []int // of the productions, the query's own
	query  *Query
	shapes map[string]int
	words  []string // those behind an `@` of the outermost pattern that is read
	open   int      // how many brackets are
}

// read tells a text's query, or its first fault.
func read(s api.Spec, text string) (*Query, api.Fault) {
	r := reader{scanner: scanner{text: text}, spec: s, query: &Query{}, shapes: map[string]int{}}
	for _, p := range s.Productions {
		r.lefts = append(r.lefts, p.Left)
	}
	if f := caught(r.whole); f.Err != api.OK {
		return nil, f
	}
	return r.query, api.Fault{}
}

func (r *reader) whole() {
	q := r.query
	r.blanks()
	for len(q.tops) == 0 || r.peek() != theEnd {
		r.words = nil
		t := laid(r.pattern())
		q.tops = append(q.tops, t)
		q.steps = max(q.steps, len(t.steps))
	}
	q.shapes = len(r.shapes)
}

// pattern reads one, and the blanks behind it.
func (r *reader) pattern() *pattern {
	p := &pattern{}
	r.head(p)
	r.blanks()
	for r.peek() == '=' || r.peek() == '^' || r.peek() == '-' {
		p.checks = append(p.checks, r.check())
	}
	if r.peek() == '@' {
		p.word = r.capture()
	}
	return p
}

func (r *reader) head(p *pattern) {
	switch r.peek() {
	case '(':
		r.bracket(p)
	case '_':
		r.at++
		p.head, p.is = "_", anyNode()
	case '!':
		r.at++
		p.head, p.is = "!", leafOf(api.KBad)
	case '$':
		r.at++
		p.head, p.is = "$", leafOf(api.KEnd)
	default:
		from := r.at
		name := r.name()
		rule := slices.IndexFunc(r.spec.Lex, func(l api.LexRule) bool { return !l.Trivia && l.Name == name })
		p.head, p.is = written(name), leafOf(r.named(rule, from))
	}
}

func (r *reader) bracket(p *pattern) {
	if r.open == api.MaxNest {
		fail(api.ErrNest, r.at)
	}
	r.open++
	p.bracket = true
	r.take('(')
	r.top(p)
	r.blanks()
	for r.peek() != ')' {
		r.part(p)
	}
	r.at++
	r.open--
	if len(p.parts) > 0 {
		p.place = r.query.places
		r.query.places++
	}
}

// top reads what stands behind a `(`.
func (r *reader) top(p *pattern) {
	switch r.peek() {
	case '_':
		r.at++
		p.head, p.is = "_", anyInner()
	case '!':
		r.at++
		p.head, p.is = "!", anyError()
	default:
		from := r.at
		name := r.name()
		p.head, p.is = written(name), innerOf(r.named(slices.Index(r.spec.Names, name), from), r.lefts)
	}
}

// part reads a part of a bracket, or its last dot.
func (r *reader) part(p *pattern) {
	near := r.take('.')
	if near && r.peek() == ')' {
		p.last = true
		return
	}
	x := part{near: near, deep: r.take('~')}
	x.pattern = r.pattern()
	if x.deep {
		x.shape = r.shape(x.pattern)
	}
	p.parts = append(p.parts, x)
}

// shape is the number of all patterns that are written so, but for their words.
func (r *reader) shape(p *pattern) int {
	text := string(p.write(nil, false))
	n, met := r.shapes[text]
	if !met {
		n = len(r.shapes)
		r.shapes[text] = n
	}
	return n
}

// name reads a name.
func (r *reader) name() string {
	if r.peek() == '"' {
		return r.quote()
	}
	return r.word()
}

// named is the number that the name at a place stands for, if it stands for any.
func (r *reader) named(number, from int) int {
	if number < 0 {
		fail(api.ErrQueryName, from)
	}
	return number
}

// check reads one, and the blanks behind it.
func (r *reader) check() check {
	sign := byte(r.peek())
	r.take(int(sign))
	text := r.quote()
	r.blanks()
	return check{sign, text, checkOf(sign, text)}
}

// capture reads an `@` with its word, and the blanks behind it.
func (r *reader) capture() string {
	from := r.at
	r.at++
	word := r.word()
	if slices.Contains(r.words, word) {
		fail(api.ErrCapture, from)
	}
	r.words = append(r.words, word)
	if !slices.Contains(r.query.names, word) {
		r.query.names = append(r.query.names, word)
	}
	r.blanks()
	return word
}
