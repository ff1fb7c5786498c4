package paint

import (
	"slices"
	"strings"

	"graft/api"
	"graft/query"
)

// readStyles reads the list of styles.
func readStyles(s api.Spec, styles []api.Style) ([]style, api.Fault) {
	var all []style
	for i, x := range styles {
		q, e := readStyle(s, x)
		if e != api.OK {
			return nil, api.Fault{Err: e, At: i, Name: "styles"}
		}
		all = append(all, styleOf(q, strings.Clone(x.Name)))
	}
	return all, api.Fault{}
}

// readStyle reads the query of a style that has a right name.
func readStyle(s api.Spec, x api.Style) (*query.Query, api.Errno) {
	if x.Name == "" || len(x.Name) > api.MaxName {
		return nil, api.ErrStyle
	}
	return readQuery(s, x.Query)
}

// readQueries reads a list of queries; faults are told with the list's name.
func readQueries(s api.Spec, texts []string, list string) ([]*query.Query, api.Fault) {
	var all []*query.Query
	for i, text := range texts {
		q, e := readQuery(s, text)
		if e != api.OK {
			return nil, api.Fault{Err: e, At: i, Name: list}
		}
		all = append(all, q)
	}
	return all, api.Fault{}
}

// readQuery reads a query that can find something here.
func readQuery(s api.Spec, text string) (*query.Query, api.Errno) {
	q, f := query.Parse(s, text)
	if f.Err != api.OK {
		return nil, f.Err
	}
	if !slices.Contains(q.Names(), "it") {
		return nil, api.ErrStyle
	}
	return q, api.OK
}
