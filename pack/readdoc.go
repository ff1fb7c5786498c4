package pack

import (
	"graft/api"
	"graft/engine"
)

// docReader reads a document's pack, and makes the document version by version.
type docReader struct {
	reader
	engine *engine.Engine
	doc    *engine.Doc
}

func (r *docReader) whole() {
	r.word(docWord)
	r.engine = r.head()
	count := r.within(r.u2, 1, api.MaxVersions)
	r.doc = r.first()
	many(count-1, r.version)
	r.end()
}

// head reads the pack of the spec, by itself: where it ends is said ahead of it.
func (r *docReader) head() *engine.Engine {
	count := r.within(r.u4, 0, api.MaxPack)
	at := r.at
	s, place, err := ReadSpec(r.bytes(count))
	if err != api.OK {
		fail(at+place, err)
	}
	e, f := engine.Compile(s)
	if f.Err != api.OK {
		fail(at, api.ErrPack)
	}
	return e
}

// first reads the version 0.
func (r *docReader) first() *engine.Doc {
	at := r.at
	d, err := r.engine.Open(r.text(r.u4, api.MaxText))
	if err != api.OK {
		fail(at, api.ErrPack)
	}
	return d
}

// version reads another one, and tells its number.
func (r *docReader) version() int {
	at := r.at
	parent, place, del := r.u2(), r.u4(), r.u4()
	n, err := r.doc.Edit(parent, place, del, r.text(r.u4, api.MaxText))
	if err != api.OK {
		fail(at, api.ErrPack)
	}
	return n
}
