package shell_test

import (
	"fmt"
	"regexp"
	"slices"
	"strconv"
	"strings"

	"graft/api"
	"graft/delta"
	"graft/engine"
	"graft/layout"
	"graft/pack"
	"graft/query"
	"graft/rope"
	"graft/scan"
	"graft/sets"
	"graft/spec"
	"graft/states"
	"graft/table"
)

// The forms of P2001, over texts with one rune for each byte.
const (
	quotedForm = `"(?:[^\x{00}-\x{1f}\x{7f}"\\]|\\[\\"nt]|\\x[0-9a-fA-F][0-9a-fA-F])*"`
	bareForm   = `[^\x{00}-\x{20}\x{7f}"\\#][^\x{00}-\x{20}\x{7f}"\\]*`
	wordForm   = `(?:` + quotedForm + `|` + bareForm + `)`
)

var (
	lineForm   = regexp.MustCompile(`(?s)^[ \t]*(?:` + wordForm + `[ \t]+)*(?:` + wordForm + `|#.*)?$`)
	firstForm  = regexp.MustCompile(`^[ \t]*(` + wordForm + `)`)
	escapeForm = regexp.MustCompile(`\\(?:x..|.)`)
	numberForm = regexp.MustCompile(`^-?[0-9]{1,9}$`)
)

// wide is a text with a rune for each byte; narrow is the way back.
func wide(s string) string {
	var out strings.Builder
	for i := range len(s) {
		out.WriteRune(rune(s[i]))
	}
	return out.String()
}

func narrow(s string) string {
	var out []byte
	for _, r := range s {
		out = append(out, byte(r))
	}
	return string(out)
}

// wordsOf is P2001 by its words alone: a line is in order as a whole, or it is not.
func wordsOf(line string) ([]string, api.Errno) {
	if len(line) > 65536 {
		return nil, api.ErrLong
	}
	rest := wide(line)
	if !lineForm.MatchString(rest) {
		return nil, api.ErrCommand
	}
	var words []string
	for {
		at := firstForm.FindStringSubmatchIndex(rest)
		if at == nil {
			return words, api.OK
		}
		words = append(words, narrow(meant(rest[at[2]:at[3]])))
		rest = rest[at[3]:]
	}
}

// meant is what a word stands for.
func meant(word string) string {
	if word[0] != '"' {
		return word
	}
	return escapeForm.ReplaceAllStringFunc(word[1:len(word)-1], func(s string) string {
		switch s[1] {
		case 'n':
			return "\n"
		case 't':
			return "\t"
		case 'x':
			n, _ := strconv.ParseInt(s[2:], 16, 32)
			return string(rune(n))
		}
		return s[1:]
	})
}

// quoteOf is P2002 by its words alone.
func quoteOf(s string) string {
	out := `"`
	var parts []string
	for i := range len(s) {
		switch c := s[i]; {
		case c == 92:
			parts = append(parts, `\\`)
		case c == 34:
			parts = append(parts, `\"`)
		case c == 10:
			parts = append(parts, `\n`)
		case c == 9:
			parts = append(parts, `\t`)
		case c < 32, c >= 127:
			parts = append(parts, fmt.Sprintf(`\x%02x`, c))
		default:
			parts = append(parts, string(rune(c)))
		}
	}
	return out + strings.Join(parts, "") + `"`
}

// usages are the commands as the chapter's table has them.
func usages() []string {
	return []string{
		"lang L1 TEXT", "spec L", "states L", "conflicts TEXT", "first L", "tokens L TEXT", "open T1 L TEXT", "edit T V A D TEXT", "text T V", "tree T V", "leaves T V", "errors T V", "from T V", "kept T V W", "same T V T W",
		"query Q1 L TEXT", "ask Q T V", "changes T V W", "move T V W A N", "layout P1 L BLANK LINE INDENT GAPS", "print P T V", "pack B1 T", "unpack T1 B", "bytes B1 TEXT",
	}
}

// thing is one of the store, whatever kind it is of.
type thing struct {
	engine *engine.Engine
	doc    *engine.Doc
	query  *query.Query
	layout *layout.Layout
	bytes  string
}

// plain is a run by the chapter's words alone: each line is looked at anew, and the packages below are called as the table says.
type plain struct {
	things map[string]thing // by the letter of its kind, and its name
}

func newPlain() *plain { return &plain{map[string]thing{}} }

// run is P2003.
func (p *plain) run(text string) string {
	lines := strings.SplitAfter(text, "\n")
	if lines[len(lines)-1] == "" {
		lines = lines[:len(lines)-1]
	}
	if len(text) > 65536 || len(lines) > 512 {
		return "long\n"
	}
	out := ""
	for i, line := range lines {
		told := p.line(strings.TrimSuffix(line, "\n"))
		if len(out)+len(told)+1 > 1<<26 {
			return out + strings.Repeat("long\n", len(lines)-i)
		}
		out += told + "\n"
	}
	return out
}

// line is P2004.
func (p *plain) line(line string) string {
	words, err := wordsOf(line)
	if err != api.OK {
		return "command"
	}
	if len(words) == 0 {
		return ""
	}
	at := slices.IndexFunc(usages(), func(u string) bool { return strings.Fields(u)[0] == words[0] })
	if at < 0 {
		return "command"
	}
	usage := strings.Fields(usages()[at])
	if len(usage) != len(words) {
		return "command"
	}
	for i, u := range usage {
		if strings.Contains(" V W A D N ", " "+u+" ") && !numberForm.MatchString(words[i]) {
			return "command"
		}
	}
	for i, u := range usage {
		if _, ok := p.things[u+words[i]]; strings.Contains(" L T Q P B ", " "+u+" ") && !ok {
			return "none"
		}
	}
	return p.does(words[0], words[1:])
}

// does is P2005: one command, in order.
func (p *plain) does(name string, w []string) string {
	switch name {
	case "lang", "spec", "states", "conflicts", "first", "tokens":
		return p.languages(name, w)
	case "query", "ask", "layout", "print":
		return p.questions(name, w)
	case "pack", "unpack", "bytes":
		return p.blobs(name, w)
	}
	return p.documents(name, w)
}

// said is an answer: the error's word, or ok and what is told.
func said(err api.Errno, told ...any) string {
	if err != 0 {
		return err.Error()
	}
	return strings.TrimRight("ok "+fmt.Sprintln(told...), " \n")
}

// lot is ok and what is told of each.
func lot[T any](list []T, form string, what func(T) []any) string {
	words := []string{"ok"}
	for _, x := range list {
		words = append(words, fmt.Sprintf(form, what(x)...))
	}
	return strings.Join(words, " ")
}

func faultOf(f api.Fault) string { return fmt.Sprint(f.Err.Error(), " ", f.At, " ", quoteOf(f.Name)) }

func (p *plain) languages(name string, w []string) string {
	e := p.things["L"+w[0]].engine
	switch name {
	case "lang":
		s, f := spec.Parse(w[1])
		if f == (api.Fault{}) {
			e, f = engine.Compile(s)
		}
		if f != (api.Fault{}) {
			return faultOf(f)
		}
		p.things["L"+w[0]] = thing{engine: e}
		return "ok"
	case "spec":
		text, err := spec.Print(e.Spec())
		return said(err, quoteOf(text))
	case "states":
		a, _ := states.Build(e.Spec())
		return said(0, a.Len())
	case "conflicts":
		s, f := spec.Parse(w[0])
		if f != (api.Fault{}) {
			return faultOf(f)
		}
		a, f := states.Build(s)
		if f != (api.Fault{}) {
			return faultOf(f)
		}
		return lot(table.All(a), "%d.%d.%d.%d.%d", func(c api.Conflict) []any { return []any{c.State, c.Terminal, c.Shift, c.First, c.Second} })
	case "first":
		lists, _ := sets.First(e.Spec())
		return lot(lists, "%s", func(l []int) []any {
			if len(l) == 0 {
				return []any{"-"}
			}
			return []any{strings.ReplaceAll(strings.Trim(fmt.Sprint(l), "[]"), " ", ",")}
		})
	}
	s, _ := scan.New(e.Spec().Lex)
	r, err := rope.New([]byte(w[1]))
	if err != 0 {
		return err.Error()
	}
	return lot(s.Tokens(r), "%d.%d.%d", func(x api.Token) []any { return []any{x.Rule, x.Len, x.Reach} })
}

func (p *plain) documents(name string, w []string) string {
	if name == "open" {
		e := p.things["L"+w[1]].engine
		d, err := e.Open([]byte(w[2]))
		if err == 0 {
			p.things["T"+w[0]] = thing{engine: e, doc: d}
		}
		return said(err)
	}
	d := p.things["T"+w[0]].doc
	n := numbers(w)
	for i, u := range strings.Fields(usages()[slices.IndexFunc(usages(), func(u string) bool { return strings.HasPrefix(u, name+" ") })])[1:] {
		of := d
		if name == "same" && i > 1 {
			of = p.things["T"+w[2]].doc
		}
		if _, err := of.Text(n[i]); (u == "V" || u == "W") && err != 0 {
			return "version"
		}
	}
	switch name {
	case "edit":
		v, err := d.Edit(n[1], n[2], n[3], []byte(w[4]))
		return said(err, v)
	case "text":
		b, err := d.Text(n[1])
		return said(err, quoteOf(string(b)))
	case "tree":
		rows, _ := d.Tree(n[1])
		return lot(rows, "%d.%d.%d.%d.%d", func(r api.Row) []any { return []any{r.Kind, r.N, r.Skip, r.Len, r.Kids} })
	case "leaves":
		leaves, _ := d.Leaves(n[1])
		return lot(leaves, "%d.%d.%d.%d", func(l api.Leaf) []any { return []any{l.Kind, l.Skip, l.Len, l.Reach} })
	case "errors":
		spans, _ := d.Errors(n[1])
		return spansOf(spans)
	case "from":
		o, _ := d.From(n[1])
		return said(0, o.Parent, o.Edit.At, o.Edit.Del, quoteOf(string(o.Edit.Ins)))
	}
	return p.pairs(name, w, n)
}

// numbers are the words as numbers, where they are some.
func numbers(w []string) []int {
	n := make([]int, len(w))
	for i, x := range w {
		n[i], _ = strconv.Atoi(x)
	}
	return n
}

func spansOf(spans []api.Span) string {
	return lot(spans, "%d.%d", func(s api.Span) []any { return []any{s.From, s.To} })
}

// pairs are the commands of two versions, both of which are there.
func (p *plain) pairs(name string, w []string, n []int) string {
	d := p.things["T"+w[0]].doc
	switch name {
	case "kept":
		old, _ := d.Tree(n[1])
		rows, _ := d.Tree(n[2])
		ids := map[int]bool{}
		for _, r := range old {
			ids[r.Id] = true
		}
		return said(0, len(slices.DeleteFunc(rows, func(r api.Row) bool { return !ids[r.Id] })))
	case "same":
		one, _ := d.Tree(n[1])
		two, _ := p.things["T"+w[2]].doc.Tree(n[3])
		for _, rows := range [][]api.Row{one, two} {
			for i := range rows {
				rows[i].Id = 0
			}
		}
		return said(0, map[bool]string{true: "yes", false: "no"}[slices.Equal(one, two)])
	case "changes":
		a, _ := d.Root(n[1])
		b, _ := d.Root(n[2])
		return spansOf(slices.Collect(delta.Ranges(a, b)))
	}
	var edits []api.Edit // move
	for v := n[2]; v != n[1]; {
		o, _ := d.From(v)
		if v = o.Parent; v < 0 {
			return "version"
		}
		edits = append([]api.Edit{o.Edit}, edits...)
	}
	place, err := delta.Move(n[3], n[4], edits)
	return said(err, place)
}

// questions are the commands of queries and layouts.
func (p *plain) questions(name string, w []string) string {
	e := p.things["L"+w[1]].engine
	switch name {
	case "query":
		q, f := query.Parse(e.Spec(), w[2])
		if f != (api.Fault{}) {
			return faultOf(f)
		}
		p.things["Q"+w[0]] = thing{engine: e, query: q}
		return "ok"
	case "layout":
		return p.layout(w)
	}
	of := p.things[map[string]string{"ask": "Q", "print": "P"}[name]+w[0]]
	d := p.things["T"+w[1]]
	version := numbers(w)[2]
	text, err := d.doc.Text(version)
	if err != 0 {
		return err.Error()
	}
	if d.engine != of.engine {
		return "arg"
	}
	root, _ := d.doc.Root(version)
	if name == "print" {
		s, err := of.layout.Print(root, text)
		return said(err, quoteOf(s))
	}
	found, _ := of.query.Match(root, text)
	words := []string{"ok"}
	count := 0
	for m := range found {
		if count++; count > 4096 {
			return "tries"
		}
		words = append(words, strconv.Itoa(m.Pattern))
		for _, c := range m.Caps {
			words = append(words, quoteOf(c.Name), fmt.Sprintf("%d.%d", c.From, c.To))
		}
	}
	return strings.Join(words, " ")
}

func (p *plain) layout(w []string) string {
	e := p.things["L"+w[1]].engine
	r := api.Rules{Blank: w[2], Line: w[3], Indent: w[4], Gaps: [][]int{nil}}
	for _, c := range []byte(w[5]) {
		last := len(r.Gaps) - 1
		switch c {
		case ',':
			r.Gaps = append(r.Gaps, nil)
		case 'n':
			r.Gaps[last] = append(r.Gaps[last], api.GNone)
		case 'b':
			r.Gaps[last] = append(r.Gaps[last], api.GBlank)
		case 'l':
			r.Gaps[last] = append(r.Gaps[last], api.GLine)
		case 'i':
			r.Gaps[last] = append(r.Gaps[last], api.GIn)
		case 'o':
			r.Gaps[last] = append(r.Gaps[last], api.GOut)
		default:
			return "layout"
		}
	}
	l, f := layout.New(e.Spec(), r)
	if f != (api.Fault{}) {
		return faultOf(f)
	}
	p.things["P"+w[0]] = thing{engine: e, layout: l}
	return "ok"
}

func (p *plain) blobs(name string, w []string) string {
	switch name {
	case "pack":
		d := p.things["T"+w[1]]
		b, err := pack.Doc(d.engine, d.doc)
		if err == 0 {
			p.things["B"+w[0]] = thing{bytes: string(b)}
		}
		return said(err, len(b))
	case "unpack":
		e, d, at, err := pack.ReadDoc([]byte(p.things["B"+w[1]].bytes))
		if err != 0 {
			return fmt.Sprint(err.Error(), " ", at)
		}
		p.things["T"+w[0]] = thing{engine: e, doc: d}
		return said(0, d.Versions())
	}
	p.things["B"+w[0]] = thing{bytes: w[1]}
	return said(0, len(w[1]))
}
