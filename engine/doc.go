package engine

import (
	"sync"

	"graft/api"
	"graft/relex"
	"graft/reuse"
	"graft/rope"
	"graft/tree"
)

// Doc is a document: versions that stay as they are.
type Doc struct {
	engine   *Engine
	guard    sync.Mutex  // of all below; who holds it to edit holds it till the version is there
	store    *tree.Store // of all nodes of all versions
	editions []edition   // by the numbers of their versions
	rows     int         // of all their trees together
}

// Edit makes a new version out of any old one.
func (d *Doc) Edit(version, at, del int, ins []byte) (int, api.Errno) {
	d.guard.Lock()
	defer d.guard.Unlock()
	if !d.has(version) {
		return 0, api.ErrVersion
	}
	change := api.Edit{At: at, Del: del, Ins: ins}
	if err := d.editions[version].fits(change); err != api.OK {
		return 0, err
	}
	if len(d.editions) >= api.MaxVersions {
		return 0, api.ErrFull
	}
	next, err := d.edited(version, change)
	if err != api.OK {
		return 0, err
	}
	if err := d.add(next); err != api.OK {
		return 0, err
	}
	return len(d.editions) - 1, api.OK
}

// edited is what comes of a version by an edit that fits it.
func (d *Doc) edited(version int, change api.Edit) (edition, api.Errno) {
	old := d.editions[version]
	text, err := old.text.Splice(change.At, change.Del, change.Ins)
	if err != api.OK {
		return edition{}, err
	}
	leaves, ahead, behind, err := relex.Relex(d.engine.scanner, old.leaves(), text, change)
	if err != api.OK {
		return edition{}, err
	}
	root, _, err := reuse.Parse(d.engine.table, d.store, old.root, leaves, ahead, behind)
	if err != api.OK {
		return edition{}, err
	}
	return edition{text, root, version, change.At, change.Del, len(change.Ins)}, api.OK
}

// add makes an edition the last version, if there is room for its tree.
func (d *Doc) add(e edition) api.Errno {
	rows := d.rows + e.root.Size()
	if rows > api.MaxDoc {
		return api.ErrFull
	}
	d.editions, d.rows = append(d.editions, e), rows
	return api.OK
}

// has says whether there is a version of that number.
func (d *Doc) has(version int) bool { return version >= 0 && version < len(d.editions) }

// Versions tells how many there are.
func (d *Doc) Versions() int {
	d.guard.Lock()
	defer d.guard.Unlock()
	return len(d.editions)
}

// From tells where a version comes from.
func (d *Doc) From(version int) (api.Origin, api.Errno) { return ask(d, version, edition.origin) }

// Text tells a version's bytes.
func (d *Doc) Text(version int) ([]byte, api.Errno) { return ask(d, version, edition.bytes) }

// Rope is a version's text.
func (d *Doc) Rope(version int) (*rope.Rope, api.Errno) { return ask(d, version, edition.rope) }

// Leaves tells a version's leaves.
func (d *Doc) Leaves(version int) ([]api.Leaf, api.Errno) { return ask(d, version, edition.leaves) }

// Tree tells a version's tree as rows.
func (d *Doc) Tree(version int) ([]api.Row, api.Errno) { return ask(d, version, edition.rows) }

// Root is a version's tree.
func (d *Doc) Root(version int) (*tree.Node, api.Errno) { return ask(d, version, edition.top) }

// Errors tells where a version's text is wrong.
func (d *Doc) Errors(version int) ([]api.Span, api.Errno) { return ask(d, version, edition.errors) }

// ask has a version tell something. The document is free meanwhile: an edition never changes.
func ask[T any](d *Doc, version int, tell func(edition) T) (T, api.Errno) {
	e, err := d.take(version)
	if err != api.OK {
		var nothing T
		return nothing, err
	}
	return tell(e), api.OK
}

// take is a version's edition.
func (d *Doc) take(version int) (edition, api.Errno) {
	d.guard.Lock()
	defer d.guard.Unlock()
	if !d.has(version) {
		return edition{}, api.ErrVersion
	}
	return d.editions[version], api.OK
}
