package shell_test

import (
	"fmt"
	"math/rand"
	"slices"
	"strconv"
	"strings"
	"testing"

	"graft/engine"
	"graft/pack"
	"graft/shell"
)

// drawer draws lines for a run that the model does beside it, so that most of them name what is there.
type drawer struct {
	*rand.Rand
	run   *plain
	kinds []language
	of    map[*engine.Engine]language
	met   map[string]int // by command, and the first word of the answer
}

// name is one of few, so that things take the place of others; they are of any bytes.
func (d *drawer) name() string {
	return []string{"a", "b", "c", "", "x y", "\xff\xfe", "0", "#", "\n\x00", "lang", "é"}[d.Intn(11)]
}

// thing is the name of a thing of a kind that is there, most times.
func (d *drawer) thing(kind string) string {
	var names []string
	for k := range d.run.things {
		if strings.HasPrefix(k, kind) {
			names = append(names, k[1:])
		}
	}
	if len(names) == 0 || d.Intn(25) == 0 {
		return d.name()
	}
	slices.Sort(names)
	return names[d.Intn(len(names))]
}

// anyOf is one of a list.
func anyOf[T any](d *drawer, list []T) T { return list[d.Intn(len(list))] }

// language is that of a thing, or any one.
func (d *drawer) language(key string) language {
	if l, ok := d.of[d.run.things[key].engine]; ok && d.Intn(12) > 0 {
		return l
	}
	return anyOf(d, d.kinds)
}

// number is a right one most times, from 0 to below a bound.
func (d *drawer) number(bound int) string {
	switch d.Intn(30) {
	case 0:
		return anyOf(d, []string{"x", "-", "+1", "1234567890", "", "1.5", "--2"})
	case 1:
		return anyOf(d, []string{"-1", "999999999", "-999999999", strconv.Itoa(bound), strconv.Itoa(bound + 1)})
	case 2:
		return fmt.Sprintf("%09d", d.Intn(max(1, bound)))
	}
	return strconv.Itoa(d.Intn(max(1, bound)))
}

// text is a text of a language, right or wrong.
func (d *drawer) text(l language) string {
	if d.Intn(2) == 0 {
		return anyOf(d, l.texts)
	}
	out := ""
	for range d.Intn(4) {
		out += anyOf(d, l.bits)
	}
	return out
}

// broken is a text with a byte that is another one, at times.
func (d *drawer) broken(text string) string {
	if len(text) == 0 || d.Intn(6) > 0 {
		return text
	}
	at := d.Intn(len(text))
	return text[:at] + anyOf(d, []string{"", ";", "x", "\xff", "(", " "}) + text[at+1:]
}

// words are those of a command by its usage.
func (d *drawer) words(usage []string) []string {
	words := usage[:1:1]
	versions, size := 3, 5
	for _, u := range usage[1:] {
		switch {
		case isThing(u):
			words = append(words, d.thing(u))
			if t := d.run.things["T"+words[len(words)-1]]; u == "T" && t.doc != nil {
				versions = t.doc.Versions()
			}
		case strings.HasSuffix(u, "1"):
			words = append(words, d.name())
		case u == "V" || u == "W":
			words = append(words, d.number(versions))
			if t := d.run.things["T"+words[1]]; t.doc != nil {
				v, _ := strconv.Atoi(words[len(words)-1])
				text, _ := t.doc.Text(v)
				size = len(text)
			}
		case u == "A":
			words = append(words, d.number(size+1))
		case u == "D":
			at, _ := strconv.Atoi(words[3])
			words = append(words, d.number(size-at+1))
		case u == "N":
			words = append(words, anyOf(d, []string{"0", "-1", "1", "-5", "7", "n"}))
		default:
			words = append(words, d.plain(words, u))
		}
	}
	return words
}

// plain is a word that is a text.
func (d *drawer) plain(words []string, u string) string {
	switch words[0] + " " + u {
	case "lang TEXT", "conflicts TEXT":
		return d.broken(anyOf(d, append([]string{ambiguous}, anyOf(d, d.kinds).spec, anyOf(d, d.kinds).spec, anyOf(d, d.kinds).spec)))
	case "tokens TEXT":
		return d.text(d.language("L" + words[1]))
	case "open TEXT":
		return d.text(d.language("L" + words[2]))
	case "edit TEXT":
		return d.text(d.language("T" + words[1]))
	case "query TEXT":
		return d.broken(anyOf(d, d.language("L"+words[2]).queries))
	case "layout GAPS":
		return d.broken(anyOf(d, d.language("L"+words[2]).gaps))
	case "bytes TEXT":
		return d.blob()
	}
	return anyOf(d, []string{" ", " ", " ", "\n", "\n", "", "\t", "  ", "x"}) // BLANK, LINE, INDENT
}

// blob is a pack of a document that is there, as it is or spoilt, or what is none.
func (d *drawer) blob() string {
	t := d.run.things["T"+d.thing("T")]
	if t.doc == nil || d.Intn(5) == 0 {
		return d.name()
	}
	b, _ := pack.Doc(t.engine, t.doc)
	if len(b) > 3000 {
		return "long"
	}
	return d.broken(string(b))
}

// word is a word as it may be written: bare, or in quotes, with escapes.
func (d *drawer) word(s string) string {
	if d.Intn(2) == 0 {
		return quoteOf(s)
	}
	if got, err := wordsOf(s); err == 0 && len(got) == 1 && got[0] == s && d.Intn(3) > 0 {
		return s
	}
	out := `"`
	for i := range len(s) {
		switch c := s[i]; {
		case c < 32 || c == 127 || c == '"' || c == '\\' || d.Intn(20) == 0:
			out += fmt.Sprintf([]string{`\x%02x`, `\x%02X`}[d.Intn(2)], c)
		default:
			out += string([]byte{c})
		}
	}
	return out + `"`
}

// line is any line.
func (d *drawer) line() string {
	switch d.Intn(40) {
	case 0:
		return strings.ReplaceAll(drawnLine(d.Rand), "\n", " ")
	case 1:
		return anyOf(d, []string{"", " ", "\t#", "# text a 0", "\r"})
	}
	usage := strings.Fields(anyOf(d, usages()))
	if len(d.run.things) < 4 && d.Intn(2) == 0 {
		usage = strings.Fields(usages()[0])
	}
	words := d.words(usage)
	switch d.Intn(60) {
	case 0:
		words = words[:len(words)-1]
	case 1:
		words = append(words, "x")
	case 2:
		words[0] = "frob"
	}
	out := ""
	for _, w := range words {
		out += d.word(w) + anyOf(d, []string{" ", " ", " ", "\t", "  "})
	}
	return strings.TrimRight(out, " \t") + anyOf(d, []string{"", "", "", " ", " # x\xff\""})
}

// script draws a script, and tells its answers, line by line.
func (d *drawer) script(lines int) (text, want string) {
	d.run = newPlain()
	for range lines {
		line := d.line()
		if len(text)+len(line)+1 > 65000 {
			break
		}
		told := d.run.line(line)
		for _, t := range d.run.things { // a language is known by its engine
			if _, ok := d.of[t.engine]; t.engine != nil && !ok {
				s := t.engine.Spec()
				at := slices.IndexFunc(d.kinds, func(l language) bool {
					return strings.Contains(l.spec, "start "+s.Names[s.Start]+";") && strings.Count(l.spec, " /") == len(s.Lex)
				})
				d.of[t.engine] = d.kinds[max(0, at)]
			}
		}
		text, want = text+line+"\n", want+told+"\n"
		if words, err := wordsOf(line); err == 0 && len(words) > 0 {
			d.met[words[0]+" "+strings.Fields(told)[0]]++
		}
	}
	return text, want
}

func newDrawer(seed int64) *drawer {
	return &drawer{Rand: rand.New(rand.NewSource(seed)), kinds: languages(), of: map[*engine.Engine]language{}, met: map[string]int{}}
}

// TestDrawnScripts is P2003 to P2005 of many scripts, held against a run by the chapter's words alone.
func TestDrawnScripts(t *testing.T) {
	t.Parallel()
	d := newDrawer(2005)
	for range 150 {
		text, want := d.script(30 + d.Intn(200))
		got := shell.Run(text)
		if got != want {
			lines, a, b := strings.Split(text, "\n"), strings.Split(got, "\n"), strings.Split(want, "\n")
			for i := range b {
				if i >= len(a) || a[i] != b[i] {
					t.Fatalf("P2005: line %d, %.200q: %.300q, not %.300q", i, lines[i], a[min(i, len(a)-1)], b[i])
				}
			}
			t.Fatalf("P2003: %d lines of answer, not %d", len(a), len(b))
		}
		if got := shell.Run(text); got != want {
			t.Fatal("P2006: the same script has another answer")
		}
		if got := shell.Run(text + "x"); got != want+"command\n" {
			t.Fatal("P2003: a line without its end")
		}
	}
	for _, u := range usages() {
		name := strings.Fields(u)[0]
		want := map[string]string{
			"lang": "spec unknown slash conflict", "conflicts": "spec slash", "edit": "range version", "text": "version", "tree": "version", "leaves": "version", "errors": "version", "from": "version", "kept": "version", "same": "version", "query": "query queryname", "ask": "arg version", "changes": "version", "move": "version place", "layout": "layout", "print": "arg version glue broken", "unpack": "pack cut sum",
		}[name]
		if strings.ContainsAny(u, "LTQPBVWADN") && u != "lang L1 TEXT" && name != "conflicts" && name != "bytes" {
			want += " none"
		}
		for _, word := range append(strings.Fields(want), "ok", "command") {
			if d.met[name+" "+word] == 0 {
				t.Errorf("%s was never answered %s", name, word)
			}
		}
	}
}
