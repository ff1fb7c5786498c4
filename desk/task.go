package desk

import (
	"slices"

	"graft/api"
)

// task is what one document is asked in a stretch of acts. Only one worker at a time has it, and no other one its document.
type task struct {
	*document
	round  *round
	places []int              // of its acts
	wrong  map[int][]api.Span // where versions are wrong, as far as it was asked: to find it takes a walk over the tree
}

// do does the acts, in their order.
func (t *task) do() {
	for i := 0; i < len(t.places); {
		place := t.places[i]
		if t.round.acts[place].Kind == api.ABatch {
			i += t.batch(place)
			continue
		}
		t.answer(place, t.one(place))
		i++
	}
}

// at is where the session of an act stands.
func (t *task) at(place int) *stand { return &t.stands[t.round.acts[place].Session] }

// answer replies to an act that was done, or refused.
func (t *task) answer(place int, err api.Errno) {
	if err != api.OK {
		t.round.replies[place] = api.Reply{Err: err}
		return
	}
	t.round.replies[place] = api.Reply{Version: t.at(place).version}
}

// one does an act by itself.
func (t *task) one(place int) api.Errno {
	a, s := t.round.acts[place], t.at(place)
	switch a.Kind {
	case api.AEdit:
		return t.change(s, editOf(a))
	case api.AUndo:
		return s.step(&s.undo, &s.redo)
	case api.ARedo:
		return s.step(&s.redo, &s.undo)
	case api.AGoto:
		return t.jump(s, a.Version)
	}
	t.round.sizes[place] = t.size(a.Kind, s.version)
	return api.OK
}

// editOf is the edit that an act asks for.
func editOf(a api.Act) api.Edit { return api.Edit{At: a.At, Del: a.Del, Ins: a.Ins} }

// size is how much there is to tell of a version.
func (t *task) size(kind, version int) int {
	switch kind {
	case api.AText:
		text, _ := t.Rope(version)
		return text.Len()
	case api.ATree:
		root, _ := t.Root(version)
		return root.Size()
	}
	return len(t.spans(version))
}

// spans are where a version is wrong.
func (t *task) spans(version int) []api.Span {
	list, ok := t.wrong[version]
	if !ok {
		list, _ = t.Errors(version)
		t.wrong[version] = list
	}
	return list
}

// tell puts what was asked for into the replies for which there is room.
func (t *task) tell() {
	for _, place := range t.places {
		r := &t.round.replies[place]
		if r.Err != api.OK {
			continue
		}
		switch t.round.acts[place].Kind {
		case api.AText:
			r.Text, _ = t.Text(r.Version)
		case api.ATree:
			r.Rows, _ = t.Tree(r.Version)
		case api.AErrors:
			r.Spans = slices.Clone(t.spans(r.Version))
		}
	}
}
