package spec

import (
	"graft/api"
	"graft/expr"
)

// theError is the word that names no rule and no nonterminal, but may stand in right sides.
const theError = "error"

// theStart stands for a production where the start's name is used.
const theStart = -1

// use is a word that names something: what, is known only at the text's end.
type use struct {
	token
	production int
}

// reader reads a spec's text from the left, and throws the first fault.
type reader struct {
	scanner
	spec    api.Spec
	given   map[string]api.Sym // what names stand for
	uses    []use              // in the order of the text
	started bool
}

// statement is a word that begins a statement, and what reads the rest of it.
type statement struct {
	word string
	rest func(r *reader, first token)
}

func statements() []statement {
	return []statement{
		{"token", func(r *reader, first token) { r.rule(first, false) }},
		{"skip", func(r *reader, first token) { r.rule(first, true) }},
		{"start", func(r *reader, first token) { r.start(first) }},
	}
}

// statementOf tells the statement that a word begins, if it is one of these words.
func statementOf(word string) (found statement, is bool) {
	for _, s := range statements() {
		if s.word == word {
			return s, true
		}
	}
	return statement{}, false
}

// read tells a text's spec, or its first fault.
func read(text string) (api.Spec, api.Fault) {
	r := reader{scanner: scanner{text: text}, given: map[string]api.Sym{theError: {Kind: api.SError}}}
	if f := caught(r.whole); f.Err != api.OK {
		return api.Spec{}, f
	}
	return r.spec, api.Fault{}
}

// caught tells the fault that a walk throws, if it throws one.
func caught(walk func()) (f api.Fault) {
	defer func() {
		if thrown := recover(); thrown != nil {
			f = thrown.(api.Fault)
		}
	}()
	walk()
	return api.Fault{}
}

// fail throws a fault, for caught to tell.
func fail(err api.Errno, at int, name string) {
	panic(api.Fault{Err: err, At: at, Name: name})
}

// wrong is the fault of a token that may not stand where it does.
func wrong(t token) { fail(api.ErrSpec, t.at, "") }

func (r *reader) whole() {
	for t := r.next(); t.kind != theEnd; t = r.next() {
		r.statement(t)
	}
	if !r.started {
		fail(api.ErrStart, len(r.text), "")
	}
	r.resolve()
}

// statement reads one of which the first token is read.
func (r *reader) statement(first token) {
	if s, is := statementOf(first.word); is {
		s.rest(r, first)
		return
	}
	r.nonterminal(first)
}

func (r *reader) rule(first token, trivia bool) {
	if len(r.spec.Lex) == api.MaxLex {
		fail(api.ErrLong, first.at, "")
	}
	name := r.next()
	r.give(name, api.Sym{Kind: api.STerminal, N: len(r.spec.Lex)})
	r.sign('=')
	r.spec.Lex = append(r.spec.Lex, api.LexRule{Name: name.word, Trivia: trivia, Expr: r.pattern()})
	r.sign(';')
}

func (r *reader) start(first token) {
	if r.started {
		fail(api.ErrStart, first.at, "")
	}
	r.started = true
	name := r.next()
	checkName(name)
	r.uses = append(r.uses, use{name, theStart})
	r.sign(';')
}

func (r *reader) nonterminal(first token) {
	left := len(r.spec.Names)
	r.give(first, api.Sym{Kind: api.SName, N: left})
	if left == api.MaxNames {
		fail(api.ErrLong, first.at, "")
	}
	r.spec.Names = append(r.spec.Names, first.word)
	r.sign('=')
	for r.right(left) {
	}
}

// right reads a right side and the sign behind it, and tells whether another side follows.
func (r *reader) right(left int) bool {
	production := len(r.spec.Productions)
	t := r.part()
	if production == api.MaxProductions {
		fail(api.ErrLong, t.at, "")
	}
	r.spec.Productions = append(r.spec.Productions, api.Production{Left: left})
	for n := 0; t.kind == someWord; n++ {
		if n == api.MaxRight {
			fail(api.ErrLong, t.at, "")
		}
		r.uses = append(r.uses, use{t, production})
		t = r.part()
	}
	return t.kind == '|'
}

// part reads a word of a right side, or the sign behind it.
func (r *reader) part() token {
	t := r.next()
	switch {
	case t.kind == someWord && t.word != theError:
		checkName(t)
	case t.kind != someWord && t.kind != '|' && t.kind != ';':
		wrong(t)
	}
	return t
}

// sign reads the one sign that may stand here.
func (r *reader) sign(kind int) {
	if t := r.next(); t.kind != kind {
		wrong(t)
	}
}

// pattern reads a pattern whole, so that its faults come ahead of those behind it.
func (r *reader) pattern() api.Expr {
	r.blanks()
	open := r.at
	if open == len(r.text) || r.text[open] != '/' {
		fail(api.ErrSpec, open, "")
	}
	end, closed := r.closing(open)
	if !closed {
		fail(api.ErrSlash, open, "")
	}
	e, f := expr.Parse(r.text[open+1 : end])
	if f.Err != api.OK {
		fail(api.ErrSlash, open+1+f.At, "")
	}
	r.at = end + 1
	return e
}

// give lets a name stand for a rule or a nonterminal.
func (r *reader) give(name token, s api.Sym) {
	checkName(name)
	if r.given[name.word].Kind != 0 {
		fail(api.ErrTwice, name.at, name.word)
	}
	r.given[name.word] = s
}

// checkName asks whether a token is a name.
func checkName(t token) {
	if t.kind != someWord || reserved(t.word) {
		wrong(t)
	}
	if len(t.word) > api.MaxName {
		fail(api.ErrLong, t.at, t.word[:api.MaxName])
	}
}

// reserved asks whether a word can't be a name.
func reserved(word string) bool {
	_, is := statementOf(word)
	return is || word == theError
}

// resolve says of all words what they name, when all is known.
func (r *reader) resolve() {
	for _, u := range r.uses {
		s := r.given[u.word]
		switch {
		case u.production == theStart && s.Kind == api.SName:
			r.spec.Start = s.N
		case u.production != theStart && s.Kind != 0:
			p := &r.spec.Productions[u.production]
			p.Right = append(p.Right, s)
		default:
			fail(api.ErrUnknown, u.at, u.word)
		}
	}
}
