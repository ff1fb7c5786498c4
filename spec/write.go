package spec

import (
	"strings"

	"graft/api"
)

// write tells a spec's text, or why it has none.
func write(s api.Spec) (string, api.Fault) {
	c := newChecker(s)
	if f := caught(c.whole); f.Err != api.OK {
		return "", f
	}
	text := lines(s, c.patterns)
	if len(text) > api.MaxSpec {
		return "", api.Fault{Err: api.ErrLong, Name: inText}
	}
	return text, api.Fault{}
}

// lines writes a spec that is in order, with the texts of its patterns.
func lines(s api.Spec, patterns []string) string {
	var b strings.Builder
	for i, r := range s.Lex {
		b.WriteString(ruleLine(r, patterns[i]))
	}
	b.WriteString("start " + s.Names[s.Start] + ";\n")
	words, next := Names(s), 0
	for left, name := range s.Names {
		b.WriteString(name + " =")
		for first := next; next < len(s.Productions) && s.Productions[next].Left == left; next++ {
			if next > first {
				b.WriteString(" |")
			}
			for _, sym := range s.Productions[next].Right {
				b.WriteString(" " + words[number(sym, len(s.Lex))])
			}
		}
		b.WriteString(";\n")
	}
	return b.String()
}

func ruleLine(r api.LexRule, pattern string) string {
	first := "token "
	if r.Trivia {
		first = "skip "
	}
	return first + r.Name + " = /" + pattern + "/;\n"
}

// number tells where a symbol's name stands among those of all symbols.
func number(s api.Sym, rules int) int {
	switch s.Kind {
	case api.SError:
		return rules
	case api.SName:
		return rules + 2 + s.N
	}
	return s.N
}
