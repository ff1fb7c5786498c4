package pack_test

import (
	"bytes"
	"encoding/binary"
	"hash/crc32"
	"slices"

	"graft/api"
	"graft/engine"
	"graft/expr"
)

// summed is bytes with their sum behind them.
func summed(b []byte) []byte {
	return binary.LittleEndian.AppendUint32(slices.Clone(b), crc32.ChecksumIEEE(b))
}

// resummed is a pack, or what was one, with its last four bytes as the sum of the others.
func resummed(b []byte) []byte { return summed(b[:max(0, len(b)-4)]) }

// sized is a row of bytes, with its length in so many bytes ahead of it.
func sized(width int, b string) []byte {
	n := binary.LittleEndian.AppendUint64(nil, uint64(len(b)))
	return append(n[:width], b...)
}

// wantError is P1801's error of a spec, by its words.
func wantError(s api.Spec) api.Errno {
	long := func(p api.Production) bool { return len(p.Right) > api.MaxRight }
	if len(s.Lex) > api.MaxLex || len(s.Names) > api.MaxNames || len(s.Productions) > api.MaxProductions || slices.ContainsFunc(s.Productions, long) {
		return api.ErrLong
	}
	for _, rule := range s.Lex {
		if len(rule.Name) > api.MaxName {
			return api.ErrLong
		}
		if e := expr.Check(rule.Expr); e != api.OK {
			return e
		}
	}
	if slices.ContainsFunc(s.Names, func(n string) bool { return len(n) > api.MaxName }) {
		return api.ErrLong
	}
	names := places(len(s.Names))
	numbers := map[int][]int{api.STerminal: places(len(s.Lex)), api.SError: {0}, api.SName: names}
	if !slices.Contains(names, s.Start) {
		return api.ErrIndex
	}
	for _, p := range s.Productions {
		if !slices.Contains(names, p.Left) {
			return api.ErrIndex
		}
		for _, x := range p.Right {
			if !slices.Contains(numbers[x.Kind], x.N) {
				return api.ErrIndex
			}
		}
	}
	return api.OK
}

// places are the numbers from 0 on.
func places(count int) []int {
	out := make([]int, count)
	for i := range out {
		out[i] = i
	}
	return out
}

// specBytes is the pack of a spec that has one, by the words of 'The bytes'.
func specBytes(s api.Spec) []byte {
	b := []byte("graftspe")
	b = append(b, byte(len(s.Lex)))
	for _, rule := range s.Lex {
		trivia := map[bool]byte{true: 1}[rule.Trivia]
		b = slices.Concat(b, []byte{trivia}, sized(1, rule.Name), patternBytes(rule.Expr))
	}
	b = append(b, byte(len(s.Names)))
	for _, name := range s.Names {
		b = append(b, sized(1, name)...)
	}
	b = append(b, byte(s.Start))
	b = binary.LittleEndian.AppendUint16(b, uint16(len(s.Productions)))
	for _, p := range s.Productions {
		b = append(b, byte(p.Left), byte(len(p.Right)))
		for _, x := range p.Right {
			b = append(b, byte(x.Kind), byte(x.N))
		}
	}
	return summed(b)
}

func patternBytes(e api.Expr) []byte {
	b := []byte{byte(e.Kind)}
	switch e.Kind {
	case api.XRange:
		return append(b, byte(e.From), byte(e.To))
	case api.XRepeat:
		b = binary.LittleEndian.AppendUint16(b, uint16(e.Min))
		b = binary.LittleEndian.AppendUint16(b, uint16(e.Max)) // -1 is 65535
	default:
		b = binary.LittleEndian.AppendUint16(b, uint16(len(e.List)))
	}
	for _, x := range e.List {
		b = append(b, patternBytes(x)...)
	}
	return b
}

// docBytes is the pack of a document with those versions, by the words of 'The bytes'.
func docBytes(spec []byte, versions ...api.Origin) []byte {
	b := slices.Concat([]byte("graftdoc"), sized(4, string(spec)))
	b = binary.LittleEndian.AppendUint16(b, uint16(len(versions)))
	for i, v := range versions {
		if i > 0 {
			b = binary.LittleEndian.AppendUint16(b, uint16(v.Parent))
			b = binary.LittleEndian.AppendUint32(b, uint32(v.Edit.At))
			b = binary.LittleEndian.AppendUint32(b, uint32(v.Edit.Del))
		}
		b = append(b, sized(4, string(v.Edit.Ins))...)
	}
	return summed(b)
}

// told is where a fault is, and which.
type told struct {
	at  int
	err api.Errno
}

// eye looks at a pack from the left, by the words of P1802 and P1804. When it has met a fault it sees nothing more.
type eye struct {
	b   []byte
	at  int
	bad told
}

func (y *eye) met() bool { return y.bad.err != api.OK }

// refuse is the first fault, and no later one.
func (y *eye) refuse(at int, err api.Errno) {
	if !y.met() {
		y.bad = told{at, err}
	}
}

// take looks at so many bytes.
func (y *eye) take(count int) []byte {
	if len(y.b)-y.at < count {
		y.refuse(len(y.b), api.ErrCut)
	}
	if y.met() {
		return make([]byte, 4)
	}
	y.at += count
	return y.b[y.at-count : y.at]
}

// number looks at a number of so many bytes, and tells where it begins.
func (y *eye) number(width int) (n, at int) {
	at = y.at
	for i, c := range y.take(width)[:width] {
		n += int(c) << (8 * i)
	}
	return n, at
}

// bounded looks at a number that is refused unless it is from least to most.
func (y *eye) bounded(width, least, most int) int {
	n, at := y.number(width)
	if n < least || n > most {
		y.refuse(at, api.ErrPack)
	}
	if y.met() {
		return 0
	}
	return n
}

func (y *eye) text(width, most int) string {
	n := y.bounded(width, 0, most)
	if y.take(n); y.met() {
		return ""
	}
	return string(y.b[y.at-n : y.at])
}

func (y *eye) mark(word string) {
	for i := 0; i < len(word) && !y.met(); i++ {
		if c, at := y.number(1); c != int(word[i]) {
			y.refuse(at, api.ErrPack)
		}
	}
}

// close is the sum, and what stands behind it.
func (y *eye) close() {
	want := crc32.ChecksumIEEE(y.b[:y.at])
	if n, at := y.number(4); uint32(n) != want {
		y.refuse(at, api.ErrSum)
	}
	if y.at < len(y.b) {
		y.refuse(y.at, api.ErrPack)
	}
}

// specOf is P1802 by its words.
func specOf(b []byte) (api.Spec, told) {
	if len(b) > api.MaxPack {
		return api.Spec{}, told{0, api.ErrLong}
	}
	y := &eye{b: b}
	var s api.Spec
	y.mark("graftspe")
	for n := y.bounded(1, 0, 64); n > 0 && !y.met(); n-- {
		trivia := y.bounded(1, 0, 1)
		name := y.text(1, 64)
		s.Lex = append(s.Lex, api.LexRule{Name: name, Trivia: trivia == 1, Expr: y.pattern()})
	}
	for n := y.bounded(1, 0, 128); n > 0 && !y.met(); n-- {
		s.Names = append(s.Names, y.text(1, 64))
	}
	s.Start = y.bounded(1, 0, len(s.Names)-1)
	for n := y.bounded(2, 0, 512); n > 0 && !y.met(); n-- {
		p := api.Production{Left: y.bounded(1, 0, len(s.Names)-1)}
		for k := y.bounded(1, 0, 16); k > 0 && !y.met(); k-- {
			p.Right = append(p.Right, y.symbol(len(s.Lex), len(s.Names)))
		}
		s.Productions = append(s.Productions, p)
	}
	if !y.met() {
		y.close()
	}
	if y.met() {
		return api.Spec{}, y.bad
	}
	return s, told{}
}

func (y *eye) symbol(rules, names int) api.Sym {
	most := map[int]int{api.STerminal: rules - 1, api.SError: 0, api.SName: names - 1}
	kind, at := y.number(1)
	last, is := most[kind]
	if !is {
		y.refuse(at, api.ErrPack)
		return api.Sym{}
	}
	n, _ := y.number(1)
	if n > last {
		y.refuse(at, api.ErrPack)
	}
	return api.Sym{Kind: kind, N: n}
}

// part is a value of a pattern without its parts, and how many it has.
type part struct {
	e     api.Expr
	parts int
}

// pattern looks at the values of a pattern one after the other, and only then makes it of them.
func (y *eye) pattern() api.Expr {
	begin := y.at
	var list []part
	waits := []int{1} // how many values are to come yet, at each depth
	for len(waits) > 0 && !y.met() {
		depth := len(waits)
		if waits[depth-1] == 0 {
			waits = waits[:depth-1]
			continue
		}
		waits[depth-1]--
		list = append(list, y.value(depth, len(list)+1))
		waits = append(waits, list[len(list)-1].parts)
	}
	if y.met() {
		return api.Expr{}
	}
	e, _ := made(list)
	if expr.Check(e) != api.OK {
		y.refuse(begin, api.ErrPack)
	}
	return e
}

// value looks at a value, the so-manieth of its pattern.
func (y *eye) value(depth, count int) (p part) {
	kind, at := y.number(1)
	if kind < 1 || kind > 4 || depth > 64 || count > 4096 {
		y.refuse(at, api.ErrPack)
	}
	right := true
	switch p.e.Kind = kind; kind {
	case 1:
		p.e.From, _ = y.number(1)
		p.e.To, _ = y.number(1)
		right = p.e.From <= p.e.To
	case 2, 3:
		p.parts, _ = y.number(2)
		right = p.parts >= 2 || kind == 2 && p.parts == 0
	case 4:
		p.parts = 1
		p.e.Min, _ = y.number(2)
		p.e.Max, _ = y.number(2)
		if p.e.Max == 65535 {
			p.e.Max = -1
		}
		right = p.e.Min <= 1000 && (p.e.Max == -1 || p.e.Max >= p.e.Min && p.e.Max <= 1000)
	}
	if !right {
		y.refuse(at, api.ErrPack)
	}
	return p
}

// made is the pattern of the values at a list's front, and what is left of the list.
func made(list []part) (api.Expr, []part) {
	e, parts := list[0].e, list[0].parts
	list = list[1:]
	for range parts {
		var x api.Expr
		x, list = made(list)
		e.List = append(e.List, x)
	}
	return e, list
}

// compiles says whether engine.Compile takes the spec of a pack; each is asked once.
type compiles map[string]bool

func (c compiles) takes(b []byte, s api.Spec) bool {
	if took, known := c[string(b)]; known {
		return took
	}
	e, _ := engine.Compile(s)
	c[string(b)] = e != nil
	return e != nil
}

// docOf is P1804 by its words, of texts that have trees: the spec, of each version its Origin, and its text.
func docOf(b []byte, c compiles) (s api.Spec, from []api.Origin, texts []string, bad told) {
	if len(b) > api.MaxPack {
		return s, nil, nil, told{0, api.ErrLong}
	}
	y := &eye{b: b}
	y.mark("graftdoc")
	size := y.bounded(4, 0, api.MaxPack)
	begin := y.at
	if head := y.take(size); !y.met() {
		s, bad = specOf(head)
		if bad.err != api.OK {
			y.refuse(begin+bad.at, bad.err)
		} else if !c.takes(head, s) {
			y.refuse(begin, api.ErrPack)
		}
	}
	for n := y.bounded(2, 1, api.MaxVersions); n > 0 && !y.met(); n-- {
		o, text := y.version(texts)
		from, texts = append(from, o), append(texts, text)
	}
	if !y.met() {
		y.close()
	}
	if y.met() {
		return api.Spec{}, nil, nil, y.bad
	}
	return s, from, texts, told{}
}

// version looks at one behind those of the texts, and tells its text.
func (y *eye) version(texts []string) (o api.Origin, text string) {
	begin := y.at
	o.Parent = -1
	if len(texts) > 0 {
		o.Parent, _ = y.number(2)
		o.Edit.At, _ = y.number(4)
		o.Edit.Del, _ = y.number(4)
	}
	ins := y.text(4, api.MaxText)
	if y.met() {
		return o, ""
	}
	o.Edit.Ins = []byte(ins)
	if len(texts) == 0 {
		return o, ins
	}
	if o.Parent >= len(texts) || o.Edit.At+o.Edit.Del > len(texts[o.Parent]) {
		y.refuse(begin, api.ErrPack)
		return o, ""
	}
	old := texts[o.Parent]
	text = old[:o.Edit.At] + ins + old[o.Edit.At+o.Edit.Del:]
	if len(text) > api.MaxText {
		y.refuse(begin, api.ErrPack)
	}
	return o, text
}

func sameOrigin(a, b api.Origin) bool {
	return a.Parent == b.Parent && a.Edit.At == b.Edit.At && a.Edit.Del == b.Edit.Del && bytes.Equal(a.Edit.Ins, b.Edit.Ins)
}
