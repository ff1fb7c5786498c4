package shell

import (
	"slices"
	"strconv"

	"graft/api"
	"graft/delta"
	"graft/engine"
	"graft/query"
	"graft/tree"
)

// maxFindings is how many findings of a query are told.
const maxFindings = 4096

// query makes a query of its text.
func (c call) query() string {
	q, f := query.Parse(c.language.Spec(), c.words[1])
	if f.Err != api.OK {
		return refused(f)
	}
	c.store.queries[c.words[0]] = question{q, c.language}
	return answer(api.OK)
}

// ask tells what a query finds in a version. What is found is written down at once: the ways to the nodes, which no answer tells, may be long.
func (c call) ask() string {
	root, text, err := c.version(c.question.language)
	if err != api.OK {
		return answer(err)
	}
	found, err := c.question.Match(root, text)
	if err != api.OK {
		return answer(err)
	}
	var words []string
	count := 0
	for m := range found {
		if count++; count > maxFindings {
			return answer(api.ErrTries)
		}
		words = append(words, matchWord(m))
	}
	return answer(api.OK, words...)
}

// matchWord tells one finding.
func matchWord(m api.Match) string {
	words := []string{strconv.Itoa(m.Pattern)}
	for _, x := range m.Caps {
		words = append(words, Quote([]byte(x.Name)), dotted(x.From, x.To))
	}
	return tell(words...)
}

// version is the root and the text of the version that was asked for, if its document is of that language.
func (c call) version(language *engine.Engine) (root *tree.Node, text []byte, err api.Errno) {
	d := c.documents[0]
	if text, err = d.Text(c.numbers[0]); err != api.OK {
		return nil, nil, err
	}
	if d.language != language {
		return nil, nil, api.ErrArg
	}
	root, err = d.Root(c.numbers[0])
	return root, text, err
}

// changes tells which bytes of a version are not another one's.
func (c call) changes() string {
	d := c.documents[0]
	old, err := d.Root(c.numbers[0])
	if err != api.OK {
		return answer(err)
	}
	now, err := d.Root(c.numbers[1])
	if err != api.OK {
		return answer(err)
	}
	return answer(api.OK, each(slices.Collect(delta.Ranges(old, now)), spanWord)...)
}

// move tells where a place of a version comes to stand in one that came from it.
func (c call) move() string {
	edits, err := c.documents[0].edits(c.numbers[0], c.numbers[1])
	if err != api.OK {
		return answer(err)
	}
	place, err := delta.Move(c.numbers[2], c.numbers[3], edits)
	return answer(err, strconv.Itoa(place))
}

// edits are those by which a version came from an older one, in their order: none, if it is that one.
func (d document) edits(old, now int) ([]api.Edit, api.Errno) {
	var list []api.Edit
	for at := now; ; {
		o, err := d.From(at)
		if err != api.OK {
			return nil, err // of the version itself, or of the parent that the version 0 has not
		}
		if at == old {
			break
		}
		list = append(list, o.Edit)
		at = o.Parent
	}
	slices.Reverse(list)
	return list, api.OK
}
