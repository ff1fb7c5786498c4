package desk_test

import (
	"slices"
	"strings"

	"graft/api"
	"graft/engine"
)

// plain is a desk by the words of P1902, P1903 and P1909 alone: the acts are done one after the other, with no worker and no goroutine. Of engine it takes documents; their texts it keeps by itself.
type plain struct {
	e    *engine.Engine
	docs []*paper
	shut bool
}

// paper is a document of a plain desk.
type paper struct {
	name   string
	doc    *engine.Doc
	texts  []string
	stands [api.MaxSessions]place
}

// place is where a session stands, the versions to which it can go back, and on again.
type place struct {
	version    int
	back, onto []int
}

// answer is a reply, with the document of which it tells.
type answer struct {
	api.Reply
	of *paper
}

func (p *plain) find(name string) *paper {
	for _, x := range p.docs {
		if x.name == name {
			return x
		}
	}
	return nil
}

// names is P1904.
func (p *plain) names() []string {
	var out []string
	for _, x := range p.docs {
		out = append(out, x.name)
	}
	slices.SortFunc(out, strings.Compare)
	return out
}

func (p *plain) close() { p.docs, p.shut = nil, true }

// room is what is left of P1909 within one Do.
type room struct {
	items, bytes int
}

// do is P1902.
func (p *plain) do(l []api.Act) []answer {
	out := make([]answer, len(l))
	left := room{api.MaxDoc, api.MaxPack}
	for i := 0; i < len(l); i++ {
		switch {
		case p.shut:
			out[i].Err = api.ErrShut
		case len(l) > api.MaxActs:
			out[i].Err = api.ErrLong
		default:
			out[i] = p.act(l[i], &left)
			if l[i].Kind == api.ABatch && out[i].Err == api.OK {
				n := p.batch(l[i:], out[i:])
				i += n
			}
		}
	}
	return out
}

func refusal(err api.Errno) answer { return answer{Reply: api.Reply{Err: err}} }

// act does one act. Of a batch it asks what stands ahead of ErrBatch.
func (p *plain) act(a api.Act, left *room) answer {
	if !slices.Contains([]int{api.AOpen, api.AEdit, api.ABatch, api.AUndo, api.ARedo, api.AGoto, api.AText, api.ATree, api.AErrors, api.AClose}, a.Kind) {
		return refusal(api.ErrArg)
	}
	if a.Kind == api.AOpen {
		return refusal(p.open(a.Doc, string(a.Ins)))
	}
	if a.Kind != api.AClose && (a.Session < 0 || a.Session > 15) {
		return refusal(api.ErrSession)
	}
	x := p.find(a.Doc)
	if x == nil {
		return refusal(api.ErrDoc)
	}
	if a.Kind == api.AClose {
		p.docs = slices.DeleteFunc(p.docs, func(y *paper) bool { return x == y })
		return refusal(api.OK)
	}
	if a.Kind == api.ABatch {
		return answer{of: x}
	}
	return x.act(a, left)
}

func (p *plain) open(name, text string) api.Errno {
	if len(name) == 0 || len(name) > 64 || p.find(name) != nil {
		return api.ErrDoc
	}
	if len(p.docs) == 64 {
		return api.ErrFull
	}
	d, err := p.e.Open([]byte(text))
	if err == api.OK {
		p.docs = append(p.docs, &paper{name: name, doc: d, texts: []string{text}})
	}
	return err
}

// goes is what the chapter calls to go to a version.
func (s *place) goes(version int) {
	s.back = append(slices.Clone(s.back), s.version)
	s.onto = nil
	s.version = version
}

// edit is AEdit.
func (x *paper) edit(s *place, at, del int, ins string) api.Errno {
	n, err := x.doc.Edit(s.version, at, del, []byte(ins))
	if err != api.OK {
		return err
	}
	if n != len(x.texts) {
		panic("P1303: another number")
	}
	old := x.texts[s.version]
	x.texts = append(x.texts, old[:at]+ins+old[at+del:])
	s.goes(n)
	return api.OK
}

// act does an act of a session that there is at a document that is there.
func (x *paper) act(a api.Act, left *room) answer {
	s := &x.stands[a.Session]
	switch a.Kind {
	case api.AEdit:
		if err := x.edit(s, a.At, a.Del, string(a.Ins)); err != api.OK {
			return refusal(err)
		}
	case api.AUndo:
		if len(s.back) == 0 {
			return refusal(api.ErrUndo)
		}
		s.onto = append(slices.Clone(s.onto), s.version)
		s.version, s.back = s.back[len(s.back)-1], s.back[:len(s.back)-1]
	case api.ARedo:
		if len(s.onto) == 0 {
			return refusal(api.ErrUndo)
		}
		s.back = append(slices.Clone(s.back), s.version)
		s.version, s.onto = s.onto[len(s.onto)-1], s.onto[:len(s.onto)-1]
	case api.AGoto:
		if a.Version < 0 || a.Version >= len(x.texts) {
			return refusal(api.ErrVersion)
		}
		s.goes(a.Version)
	default:
		return x.tell(a.Kind, s.version, left)
	}
	return answer{api.Reply{Version: s.version}, x}
}

// tell is AText, ATree and AErrors, with P1909.
func (x *paper) tell(kind, version int, left *room) answer {
	out := answer{api.Reply{Version: version}, x}
	switch kind {
	case api.AText:
		out.Text = []byte(x.texts[version])
	case api.ATree:
		out.Rows, _ = x.doc.Tree(version)
	case api.AErrors:
		out.Spans, _ = x.doc.Errors(version)
	}
	if len(out.Text) > left.bytes || len(out.Rows)+len(out.Spans) > left.items {
		return refusal(api.ErrFull)
	}
	left.bytes -= len(out.Text)
	left.items -= len(out.Rows) + len(out.Spans)
	return out
}

// batch is P1903, of a batch with the acts behind it, whose session and document are there. It tells how many of these acts are answered.
func (p *plain) batch(l []api.Act, out []answer) int {
	b, x := l[0], out[0].of
	out[0] = refusal(api.ErrBatch)
	if b.N < 1 || len(l)-1 < b.N {
		return 0
	}
	for _, a := range l[1 : 1+b.N] {
		if a.Kind != api.AEdit || a.Session != b.Session || a.Doc != b.Doc {
			return 0
		}
	}
	s := &x.stands[b.Session]
	old := x.texts[s.version]
	text := old
	for i := 1; i <= b.N; i++ {
		out[i] = refusal(api.ErrBatch)
	}
	for i, a := range l[1 : 1+b.N] {
		if err := fits(len(text), a); err != api.OK {
			out[1+i] = refusal(err)
			return b.N
		}
		text = text[:a.At] + string(a.Ins) + text[a.At+a.Del:]
	}
	at, del, ins := oneEdit(old, text)
	if err := x.edit(s, at, del, ins); err != api.OK {
		out[0] = refusal(err)
		return b.N
	}
	for i := range out[:1+b.N] {
		out[i] = answer{api.Reply{Version: s.version}, x}
	}
	return b.N
}

// fits is what engine.Edit says of an edit and the length of a text.
func fits(size int, a api.Act) api.Errno {
	if a.At < 0 || a.Del < 0 || a.At > size || a.Del > size || a.At+a.Del > size {
		return api.ErrRange
	}
	if size-a.Del+len(a.Ins) > 1<<18 {
		return api.ErrLong
	}
	return api.OK
}

// oneEdit is P1903's one edit: the longest front, then the longest end of what stands behind it.
func oneEdit(old, now string) (at, del int, ins string) {
	for n := range min(len(old), len(now)) + 1 {
		if strings.HasPrefix(now, old[:n]) {
			at = n
		}
	}
	old, now = old[at:], now[at:]
	end := 0
	for n := range min(len(old), len(now)) + 1 {
		if strings.HasSuffix(now, old[len(old)-n:]) {
			end = n
		}
	}
	return at, len(old) - end, now[:len(now)-end]
}
