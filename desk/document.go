package desk

import (
	"graft/api"
	"graft/engine"
)

// document is one that lies at a desk, with the stands of all sessions.
type document struct {
	*engine.Doc
	stands [api.MaxSessions]stand
}

// stand is where a session is at a document.
type stand struct {
	version    int
	undo, redo []int // the versions to which it can go back, and on again; the next one is the last
}

// move goes to a version.
func (s *stand) move(version int) {
	s.undo, s.redo = append(s.undo, s.version), nil
	s.version = version
}

// step takes the last version of one list as the one where it stands; where it stood becomes the last of the other.
func (s *stand) step(from, to *[]int) api.Errno {
	last := len(*from) - 1
	if last < 0 {
		return api.ErrUndo
	}
	*to = append(*to, s.version)
	s.version, *from = (*from)[last], (*from)[:last]
	return api.OK
}

// change edits the version at which a session stands, and moves it to the new one.
func (d *document) change(s *stand, e api.Edit) api.Errno {
	version, err := d.Edit(s.version, e.At, e.Del, e.Ins)
	if err == api.OK {
		s.move(version)
	}
	return err
}

// jump moves a session to a version that is there.
func (d *document) jump(s *stand, version int) api.Errno {
	if version < 0 || version >= d.Versions() {
		return api.ErrVersion
	}
	s.move(version)
	return api.OK
}
