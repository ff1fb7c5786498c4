package paint_test

import (
	"fmt"
	"math/rand"
	"slices"
	"strings"
	"testing"

	"graft/api"
	"graft/engine"
)

// guesser makes queries about a text.
type guesser struct {
	r     *rand.Rand
	s     api.Spec
	text  string
	words []string // that the pattern has not yet
}

// query is one of one to three patterns with the capture it.
func (g *guesser) query() string {
	for {
		var l []string
		for range 1 + g.r.Intn(2)*g.r.Intn(3) {
			g.words = []string{"it", "name", "x"}
			l = append(l, g.pattern(2))
		}
		if q := strings.Join(l, " "); strings.Contains(q, "@it") && len(q) <= api.MaxQuery {
			return q
		}
	}
}

// pattern is one of so many levels.
func (g *guesser) pattern(levels int) (out string) {
	switch n := g.r.Intn(10); {
	case n < 3:
		out = []string{"_", "!", "$"}[max(0, g.r.Intn(6)-3)]
	case n < 6 || levels == 0:
		out = g.rule()
	default:
		out = g.bracket(levels)
	}
	if g.r.Intn(8) == 0 {
		out += " " + string("=^-"[g.r.Intn(3)]) + g.quoted()
	}
	if len(g.words) > 0 && g.r.Intn(2) == 0 {
		i := g.r.Intn(len(g.words)) * g.r.Intn(2)
		out += " @" + g.words[i]
		g.words = slices.Delete(g.words, i, i+1)
	}
	return out
}

// rule is the name of a rule that is no trivia.
func (g *guesser) rule() string {
	for {
		if l := g.s.Lex[g.r.Intn(len(g.s.Lex))]; !l.Trivia {
			return l.Name
		}
	}
}

func (g *guesser) bracket(levels int) string {
	out := "(" + g.s.Names[g.r.Intn(len(g.s.Names))]
	if n := g.r.Intn(6); n < 2 {
		out = []string{"(_", "(!"}[n]
	}
	for g.r.Intn(2) == 0 {
		out += " " + []string{"", "", "", ". ", "~ ", "~ ", ". ~ "}[g.r.Intn(7)] + g.pattern(levels-1)
	}
	return out + []string{"", "", "", "", " ."}[g.r.Intn(5)] + ")"
}

// quoted is a string of some bytes of the text.
func (g *guesser) quoted() string {
	at := g.r.Intn(len(g.text) + 1)
	out := `"`
	for _, c := range []byte(g.text[at:min(len(g.text), at+g.r.Intn(3))]) {
		out += fmt.Sprintf(`\x%02x`, c)
	}
	return out + `"`
}

// lists are some of each: styles with names that are often the same, and queries that stand there twice.
func (g *guesser) lists() (l lists) {
	var old []string
	next := func() string {
		if len(old) == 0 || g.r.Intn(6) > 0 {
			old = append(old, g.query())
			return old[len(old)-1]
		}
		return old[g.r.Intn(len(old))]
	}
	for range g.r.Intn(6) {
		l.styles = append(l.styles, api.Style{Query: next(), Name: string("abc"[g.r.Intn(3)])})
	}
	for range g.r.Intn(4) {
		l.folds, l.outline = append(l.folds, next()), append(l.outline, next())
	}
	return l
}

// grown is a document with so many versions: any version is edited, often the last one; at the ends, too, and within trivia; and some edits are taken back.
func grown(t testing.TB, r *rand.Rand, e *engine.Engine, x language, versions int) *engine.Doc {
	t.Helper()
	d, err := e.Open([]byte(x.text))
	if err != api.OK {
		t.Fatal(err)
	}
	for n := 1; n < versions; n++ {
		from := max(0, n-1-r.Intn(3)*r.Intn(3))
		text, _ := d.Text(from)
		edit := randomEdit(r, len(text), x.bytes)
		if o, _ := d.From(from); from > 0 && r.Intn(4) == 0 {
			old, _ := d.Text(o.Parent)
			edit = api.Edit{At: o.Edit.At, Del: len(o.Edit.Ins), Ins: old[o.Edit.At : o.Edit.At+o.Edit.Del]}
		}
		if _, err := d.Edit(from, edit.At, edit.Del, edit.Ins); err != api.OK {
			t.Fatal(err)
		}
	}
	return d
}

// randomEdit is an edit of a text of that length.
func randomEdit(r *rand.Rand, length int, bytes string) api.Edit {
	e := api.Edit{At: []int{0, length, r.Intn(length + 1), r.Intn(length + 1), r.Intn(length + 1)}[r.Intn(5)]}
	e.Del = min(r.Intn(3)*r.Intn(3), length-e.At)
	for range r.Intn(4) {
		e.Ins = append(e.Ins, bytes[r.Intn(len(bytes))])
	}
	return e
}
