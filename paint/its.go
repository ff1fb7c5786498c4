package paint

import (
	"iter"
	"slices"

	"graft/api"
	"graft/query"
	"graft/tree"
)

// its goes through the findings of a query that have the capture `it`, each with that capture ahead. A query that finds too much is known by its Count: that tells no paths, which in a deep tree are the most of the work.
func its(q *query.Query, root *tree.Node, text []byte) (iter.Seq2[api.Cap, api.Match], api.Errno) {
	if _, e := q.Count(root, text); e != api.OK {
		return nil, e
	}
	found, e := q.Match(root, text)
	if e != api.OK {
		return nil, e
	}
	return func(yield func(api.Cap, api.Match) bool) {
		for m := range found {
			if it, ok := captured(m, "it"); ok && !yield(it, m) {
				return
			}
		}
	}, api.OK
}

// captured is what a word of a query stands for in a finding, if it stands for something there.
func captured(m api.Match, word string) (api.Cap, bool) {
	i := slices.IndexFunc(m.Caps, func(c api.Cap) bool { return c.Name == word })
	if i < 0 {
		return api.Cap{}, false
	}
	return m.Caps[i], true
}
