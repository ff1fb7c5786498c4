package shell

import (
	"strconv"
	"strings"

	"graft/api"
	"graft/engine"
)

// command is a row of the table: a name, what each word behind it must be, and what is done.
type command struct {
	name  string
	needs string // L, T, Q, P, B: the name of a thing that is there; n: a number; w: any word
	do    func(call) string
}

// commands is the table.
func commands() []command {
	return []command{
		{"lang", "ww", call.lang},
		{"spec", "L", call.spec},
		{"states", "L", call.states},
		{"conflicts", "w", call.conflicts},
		{"first", "L", call.first},
		{"tokens", "Lw", call.tokens},
		{"open", "wLw", call.open},
		{"edit", "Tnnnw", call.edit},
		{"text", "Tn", call.text},
		{"tree", "Tn", call.tree},
		{"leaves", "Tn", call.leaves},
		{"errors", "Tn", call.errors},
		{"from", "Tn", call.from},
		{"kept", "Tnn", call.kept},
		{"same", "TnTn", call.same},
		{"query", "wLw", call.query},
		{"ask", "QTn", call.ask},
		{"changes", "Tnn", call.changes},
		{"move", "Tnnnn", call.move},
		{"layout", "wLwwww", call.layout},
		{"print", "PTn", call.print},
		{"pack", "wT", call.pack},
		{"unpack", "wB", call.unpack},
		{"bytes", "ww", call.bytes},
	}
}

// call is a command that was asked for, with what it needs: each kind of it in the order of the line.
type call struct {
	store     *store
	words     []string // names that are given, and texts
	numbers   []int
	language  *engine.Engine
	documents []document
	question  question
	form      form
	blob      []byte
}

// do does what a line asks for, and tells its answer.
func (s *store) do(line string) string {
	words, err := Words(line)
	if err != api.OK {
		return api.ErrCommand.Error()
	}
	if len(words) == 0 {
		return ""
	}
	for _, c := range commands() {
		if c.name == words[0] && len(c.needs) == len(words)-1 {
			return s.call(c, words[1:])
		}
	}
	return api.ErrCommand.Error()
}

// call does a command with the words behind its name. All numbers are looked at ahead of all names.
func (s *store) call(c command, words []string) string {
	asked := call{store: s}
	for i, need := range c.needs {
		if need != 'n' {
			continue
		}
		n, ok := number(words[i])
		if !ok {
			return api.ErrCommand.Error()
		}
		asked.numbers = append(asked.numbers, n)
	}
	for i, need := range c.needs {
		if !asked.take(need, words[i]) {
			return api.ErrNone.Error()
		}
	}
	return c.do(asked)
}

// number reads a word that must be a number.
func number(word string) (int, bool) {
	digits := strings.TrimPrefix(word, "-")
	if len(digits) > 9 || strings.Trim(digits, "0123456789") != "" {
		return 0, false
	}
	n, err := strconv.Atoi(word)
	return n, err == nil
}

// take puts down what a word stands for, if there is such a thing. Numbers are there already.
func (c *call) take(need rune, word string) (ok bool) {
	switch need {
	case 'L':
		c.language, ok = c.store.languages[word]
	case 'T':
		var d document
		d, ok = c.store.documents[word]
		c.documents = append(c.documents, d)
	case 'Q':
		c.question, ok = c.store.queries[word]
	case 'P':
		c.form, ok = c.store.layouts[word]
	case 'B':
		c.blob, ok = c.store.blobs[word]
	case 'w':
		c.words, ok = append(c.words, word), true
	default:
		ok = true
	}
	return ok
}
