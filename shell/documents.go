package shell

import (
	"slices"
	"strconv"

	"graft/api"
)

// open makes a document of a text.
func (c call) open() string {
	d, err := c.language.Open([]byte(c.words[1]))
	if err == api.OK {
		c.store.documents[c.words[0]] = document{d, c.language}
	}
	return answer(err)
}

// edit makes one version more.
func (c call) edit() string {
	version, err := c.documents[0].Edit(c.numbers[0], c.numbers[1], c.numbers[2], []byte(c.words[0]))
	return answer(err, strconv.Itoa(version))
}

// text tells a version's text.
func (c call) text() string {
	b, err := c.documents[0].Text(c.numbers[0])
	return answer(err, Quote(b))
}

// tree tells the rows of a version's tree.
func (c call) tree() string {
	rows, err := c.documents[0].Tree(c.numbers[0])
	return answer(err, each(rows, func(r api.Row) string {
		return dotted(r.Kind, r.N, r.Skip, r.Len, r.Kids)
	})...)
}

// leaves tells a version's leaves.
func (c call) leaves() string {
	leaves, err := c.documents[0].Leaves(c.numbers[0])
	return answer(err, each(leaves, func(l api.Leaf) string {
		return dotted(l.Kind, l.Skip, l.Len, l.Reach)
	})...)
}

// errors tells where a version's text went wrong.
func (c call) errors() string {
	spans, err := c.documents[0].Errors(c.numbers[0])
	return answer(err, each(spans, spanWord)...)
}

// from tells where a version came from.
func (c call) from() string {
	o, err := c.documents[0].From(c.numbers[0])
	return answer(err, strconv.Itoa(o.Parent), strconv.Itoa(o.Edit.At), strconv.Itoa(o.Edit.Del), Quote(o.Edit.Ins))
}

// kept counts the rows of a version whose nodes stand in the tree of another one.
func (c call) kept() string {
	old, now, err := c.trees(c.documents[0], c.documents[0])
	ids := make(map[int]struct{}, len(old))
	for _, r := range old {
		ids[r.Id] = struct{}{}
	}
	count := 0
	for _, r := range now {
		if _, ok := ids[r.Id]; ok {
			count++
		}
	}
	return answer(err, strconv.Itoa(count))
}

// same says whether two versions have the same rows.
func (c call) same() string {
	one, two, err := c.trees(c.documents[0], c.documents[1])
	word := "no"
	if slices.EqualFunc(one, two, sameRow) {
		word = "yes"
	}
	return answer(err, word)
}

// trees are the rows of two documents' versions: of the first number's and of the second one's.
func (c call) trees(a, b document) (one, two []api.Row, err api.Errno) {
	if one, err = a.Tree(c.numbers[0]); err != api.OK {
		return nil, nil, err
	}
	if two, err = b.Tree(c.numbers[1]); err != api.OK {
		return nil, nil, err
	}
	return one, two, api.OK
}

// sameRow leaves the Ids aside.
func sameRow(a, b api.Row) bool {
	a.Id, b.Id = 0, 0
	return a == b
}
