package spec_test

import (
	"regexp"
	"slices"
	"strings"

	"graft/api"
	"graft/expr"
)

// The states of the model: what stands next.
const (
	first    = iota // a statement's first word
	ruleName        // the name of a rule
	ruleIs          // its =
	pattern         // its pattern
	ruleEnds        // its ;
	startName
	startEnds
	nameIs // the = of a nonterminal
	side   // the first token of a right side
	inSide // another one
)

var (
	gap   = regexp.MustCompile(`^(?:[\t\n\r ]|//[^\n]*)*`)
	blank = regexp.MustCompile(`^[\t\n\r ]*`)
	word  = regexp.MustCompile(`^[A-Za-z_][A-Za-z_0-9]*`)
	slash = regexp.MustCompile(`^/(?s:\\.|[^\\/])*/`)
)

// model reads specs another way than the program: by states, and by regular expressions.
type model struct {
	text        string
	at, state   int
	spec        api.Spec
	names       map[string]api.Sym
	starts      int
	sides       []string // words that name something, and their places
	sidesAt     []int
	sidesOf     []int // the production, or -1: the start
	lastTrivial bool
	lastName    string
}

// modelled is what Parse answers.
func modelled(text string) (api.Spec, api.Fault) {
	if len(text) > 65536 {
		return api.Spec{}, api.Fault{Err: api.ErrLong}
	}
	m := &model{text: text, names: map[string]api.Sym{}}
	for {
		done, f := m.step()
		if f != (api.Fault{}) {
			return api.Spec{}, f
		}
		if done {
			break
		}
	}
	if m.starts == 0 {
		return api.Spec{}, api.Fault{Err: api.ErrStart, At: len(text)}
	}
	for i, w := range m.sides {
		s, known := m.names[w]
		switch p := m.sidesOf[i]; {
		case w == "error":
			m.spec.Productions[p].Right = append(m.spec.Productions[p].Right, api.Sym{Kind: api.SError})
		case !known || p < 0 && s.Kind != api.SName:
			return api.Spec{}, api.Fault{Err: api.ErrUnknown, At: m.sidesAt[i], Name: w}
		case p < 0:
			m.spec.Start = s.N
		default:
			m.spec.Productions[p].Right = append(m.spec.Productions[p].Right, s)
		}
	}
	return m.spec, api.Fault{}
}

// step reads one token, and tells whether the text is at its end.
func (m *model) step() (bool, api.Fault) {
	if m.state == pattern {
		return false, m.readPattern()
	}
	m.at += len(gap.FindString(m.text[m.at:]))
	at := m.at
	w := word.FindString(m.text[at:])
	sign := ""
	if w == "" && at < len(m.text) && strings.Contains("=|;", m.text[at:at+1]) {
		sign = m.text[at : at+1]
	}
	m.at += len(w) + len(sign)
	if at == len(m.text) && m.state == first {
		return true, api.Fault{}
	}
	if w != "" {
		return false, m.readWord(w, at)
	}
	return false, m.readSign(sign, at)
}

func (m *model) readSign(sign string, at int) api.Fault {
	wrong := api.Fault{Err: api.ErrSpec, At: at}
	type step struct {
		state int
		sign  string
	}
	next, may := map[step]int{
		{ruleIs, "="}: pattern, {ruleEnds, ";"}: first, {startEnds, ";"}: first, {nameIs, "="}: side,
		{side, "|"}: side, {inSide, "|"}: side, {side, ";"}: first, {inSide, ";"}: first,
	}[step{m.state, sign}]
	if !may {
		return wrong
	}
	if m.state == side {
		if len(m.spec.Productions) == 512 {
			return api.Fault{Err: api.ErrLong, At: at}
		}
		m.spec.Productions = append(m.spec.Productions, api.Production{Left: len(m.spec.Names) - 1})
	}
	m.state = next
	return api.Fault{}
}

func (m *model) readWord(w string, at int) api.Fault {
	fault := func(err api.Errno) api.Fault { return api.Fault{Err: err, At: at} }
	stated := w == "token" || w == "skip" || w == "start"
	may := []int{first: 1, ruleName: 1, startName: 1, side: 1, inSide: 1, nameIs: 0}[m.state] == 1
	switch {
	case !may || stated && m.state != first || w == "error" && m.state != side && m.state != inSide:
		return fault(api.ErrSpec)
	case len(w) > 64:
		return api.Fault{Err: api.ErrLong, At: at, Name: w[:64]}
	}
	switch m.state {
	case first:
		return m.readFirst(w, stated, fault)
	case ruleName:
		if _, twice := m.names[w]; twice {
			return api.Fault{Err: api.ErrTwice, At: at, Name: w}
		}
		m.names[w] = api.Sym{Kind: api.STerminal, N: len(m.spec.Lex)}
		m.lastName, m.state = w, ruleIs
	case startName:
		m.use(w, at, -1)
		m.state = startEnds
	case side, inSide:
		return m.readSide(w, at, fault)
	}
	return api.Fault{}
}

func (m *model) readFirst(w string, stated bool, fault func(api.Errno) api.Fault) api.Fault {
	_, twice := m.names[w]
	f := api.Fault{}
	switch {
	case w == "start" && m.starts > 0:
		f = fault(api.ErrStart)
	case w == "start":
		m.starts++
		m.state = startName
	case stated && len(m.spec.Lex) == 64:
		f = fault(api.ErrLong)
	case stated:
		m.lastTrivial, m.state = w == "skip", ruleName
	case twice:
		f = fault(api.ErrTwice)
		f.Name = w
	case len(m.spec.Names) == 128:
		f = fault(api.ErrLong)
	default:
		m.names[w] = api.Sym{Kind: api.SName, N: len(m.spec.Names)}
		m.spec.Names = append(m.spec.Names, w)
		m.state = nameIs
	}
	return f
}

func (m *model) readSide(w string, at int, fault func(api.Errno) api.Fault) api.Fault {
	if m.state == side {
		if len(m.spec.Productions) == 512 {
			return fault(api.ErrLong)
		}
		m.spec.Productions = append(m.spec.Productions, api.Production{Left: len(m.spec.Names) - 1})
		m.state = inSide
	}
	p := len(m.spec.Productions) - 1
	if n := len(m.sidesOf); n >= 16 && !slices.ContainsFunc(m.sidesOf[n-16:], func(of int) bool { return of != p }) {
		return fault(api.ErrLong)
	}
	m.use(w, at, p)
	return api.Fault{}
}

func (m *model) use(w string, at, production int) {
	m.sides, m.sidesAt, m.sidesOf = append(m.sides, w), append(m.sidesAt, at), append(m.sidesOf, production)
}

func (m *model) readPattern() api.Fault {
	m.at += len(blank.FindString(m.text[m.at:]))
	if !strings.HasPrefix(m.text[m.at:], "/") {
		return api.Fault{Err: api.ErrSpec, At: m.at}
	}
	whole := slash.FindString(m.text[m.at:])
	if whole == "" || strings.Contains(whole, "\n") {
		return api.Fault{Err: api.ErrSlash, At: m.at}
	}
	e, f := expr.Parse(whole[1 : len(whole)-1])
	if f.Err != api.OK {
		return api.Fault{Err: api.ErrSlash, At: m.at + 1 + f.At}
	}
	m.at += len(whole)
	m.spec.Lex = append(m.spec.Lex, api.LexRule{Name: m.lastName, Trivia: m.lastTrivial, Expr: e})
	m.state = ruleEnds
	return api.Fault{}
}
