package pack

import (
	"graft/api"
	"graft/engine"
)

// writer writes a pack from the left.
type writer struct {
	out  []byte
	over bool // there would be more bytes than a pack may have: no more are written
}

// row writes how many things there are, and then each of them.
func row[T any](count func(int), each func(T), list []T) {
	count(len(list))
	for _, x := range list {
		each(x)
	}
}

func (w *writer) put(b ...byte) {
	if len(w.out)+len(b) > api.MaxPack-sumSize {
		w.over = true
	}
	if !w.over {
		w.out = append(w.out, b...)
	}
}

func (w *writer) u1(n int) { w.put(byte(n)) }

func (w *writer) u2(n int) { w.put(byte(n), byte(n>>8)) }

func (w *writer) u4(n int) { w.put(byte(n), byte(n>>8), byte(n>>16), byte(n>>24)) }

// text writes how many bytes there are, and these.
func (w *writer) text(count func(int), b []byte) {
	count(len(b))
	w.put(b...)
}

func (w *writer) name(name string) { w.text(w.u1, []byte(name)) }

// done is the pack, with its sum.
func (w *writer) done() ([]byte, api.Errno) {
	if w.over {
		return nil, api.ErrLong
	}
	n := sum(w.out)
	return append(w.out, byte(n), byte(n>>8), byte(n>>16), byte(n>>24)), api.OK
}

func (w *writer) spec(s api.Spec) {
	w.put([]byte(specWord)...)
	row(w.u1, w.rule, s.Lex)
	row(w.u1, w.name, s.Names)
	w.u1(s.Start)
	row(w.u2, w.production, s.Productions)
}

func (w *writer) rule(rule api.LexRule) {
	trivia := 0
	if rule.Trivia {
		trivia = 1
	}
	w.u1(trivia)
	w.name(rule.Name)
	w.value(rule.Expr)
}

// value writes a pattern, or a part of one.
func (w *writer) value(e api.Expr) {
	w.u1(e.Kind)
	switch e.Kind {
	case api.XRange:
		w.u1(e.From)
		w.u1(e.To)
	case api.XSeq, api.XAlt:
		row(w.u2, w.value, e.List)
	case api.XRepeat:
		w.u2(e.Min)
		w.most(e.Max)
		w.value(e.List[0])
	}
}

// most writes how often a repetition may come.
func (w *writer) most(n int) {
	if n == -1 {
		n = noEnd
	}
	w.u2(n)
}

func (w *writer) production(p api.Production) {
	w.u1(p.Left)
	row(w.u1, w.symbol, p.Right)
}

func (w *writer) symbol(x api.Sym) {
	w.u1(x.Kind)
	w.u1(x.N)
}

// doc writes a document behind the pack of its spec. The versions are asked one by one: all that they put in may be far more than a pack can hold.
func (w *writer) doc(head []byte, d *engine.Doc) {
	w.put([]byte(docWord)...)
	w.text(w.u4, head)
	count := d.Versions() // others may edit it meanwhile: what is written is what was there
	w.u2(count)
	for version := 0; version < count && !w.over; version++ {
		from, _ := d.From(version)
		w.version(from)
	}
}

func (w *writer) version(from api.Origin) {
	if from.Parent >= 0 {
		w.u2(from.Parent)
		w.u4(from.Edit.At)
		w.u4(from.Edit.Del)
	}
	w.text(w.u4, from.Edit.Ins)
}
