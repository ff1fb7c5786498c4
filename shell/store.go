package shell

import (
	"graft/engine"
	"graft/layout"
	"graft/query"
)

// store holds the things of one run, each kind under names of its own. A language is one that a lang command made, and no other: so it is known by its engine.
type store struct {
	languages map[string]*engine.Engine
	documents map[string]document
	queries   map[string]question
	layouts   map[string]form
	blobs     map[string][]byte
}

// document has its language beside it: the language's name may be another one's by now.
type document struct {
	*engine.Doc
	language *engine.Engine
}

// question is a query with its language.
type question struct {
	*query.Query
	language *engine.Engine
}

// form is a layout with its language.
type form struct {
	*layout.Layout
	language *engine.Engine
}

func newStore() *store {
	return &store{
		languages: map[string]*engine.Engine{},
		documents: map[string]document{},
		queries:   map[string]question{},
		layouts:   map[string]form{},
		blobs:     map[string][]byte{},
	}
}
