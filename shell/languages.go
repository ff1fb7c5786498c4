package shell

import (
	"strconv"

	"graft/api"
	"graft/engine"
	"graft/rope"
	"graft/scan"
	"graft/sets"
	"graft/spec"
	"graft/states"
	"graft/table"
)

// lang makes a language of a spec's text.
func (c call) lang() string {
	s, f := spec.Parse(c.words[1])
	if f.Err != api.OK {
		return refused(f)
	}
	e, f := engine.Compile(s)
	if f.Err != api.OK {
		return refused(f)
	}
	c.store.languages[c.words[0]] = e
	return answer(api.OK)
}

// spec tells a language's spec as text.
func (c call) spec() string {
	text, err := spec.Print(c.language.Spec())
	return answer(err, Quote([]byte(text)))
}

// states tells how many states a language's automaton has.
func (c call) states() string {
	a, f := states.Build(c.language.Spec())
	if f.Err != api.OK {
		return answer(f.Err)
	}
	return answer(api.OK, strconv.Itoa(a.Len()))
}

// conflicts tells those of a spec's text: a language has none.
func (c call) conflicts() string {
	s, f := spec.Parse(c.words[0])
	if f.Err != api.OK {
		return refused(f)
	}
	a, f := states.Build(s)
	if f.Err != api.OK {
		return refused(f)
	}
	return answer(api.OK, each(table.All(a), func(x api.Conflict) string {
		return dotted(x.State, x.Terminal, x.Shift, x.First, x.Second)
	})...)
}

// first tells with which terminals each name of a language begins.
func (c call) first() string {
	lists, f := sets.First(c.language.Spec())
	return answer(f.Err, each(lists, func(terminals []int) string {
		if len(terminals) == 0 {
			return "-"
		}
		return joined(terminals, ',')
	})...)
}

// tokens takes a text to pieces by a language's rules.
func (c call) tokens() string {
	s, f := scan.New(c.language.Spec().Lex)
	if f.Err != api.OK {
		return answer(f.Err)
	}
	r, err := rope.New([]byte(c.words[0]))
	if err != api.OK {
		return answer(err)
	}
	return answer(api.OK, each(s.Tokens(r), func(x api.Token) string {
		return dotted(x.Rule, x.Len, x.Reach)
	})...)
}
