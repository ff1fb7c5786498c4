package layout

import (
	"slices"
	"strings"

	"graft/api"
)

// blanks are the bytes of which spacings are made, and by which alone a trivia token is no comment.
const blanks = "\t\n\r "

// check tells the first fault of rules for these productions.
func check(r api.Rules, productions []api.Production) api.Fault {
	words := [...]string{r.Blank, r.Line, r.Indent}
	for _, w := range words {
		if len(w) > api.MaxName {
			return api.Fault{Err: api.ErrLong, At: -1}
		}
	}
	for _, w := range words {
		if strings.Trim(w, blanks) != "" {
			return api.Fault{Err: api.ErrLayout, At: -1}
		}
	}
	if len(r.Gaps) != len(productions) {
		return api.Fault{Err: api.ErrLayout, At: -1}
	}
	for i, p := range productions {
		if len(r.Gaps[i]) != len(p.Right)+1 || slices.ContainsFunc(r.Gaps[i], isNoGap) {
			return api.Fault{Err: api.ErrLayout, At: i}
		}
	}
	return api.Fault{}
}

func isNoGap(kind int) bool { return kind < api.GNone || kind > api.GOut }

// copied is rules that nobody else holds.
func copied(r api.Rules) api.Rules {
	c := api.Rules{Blank: strings.Clone(r.Blank), Line: strings.Clone(r.Line), Indent: strings.Clone(r.Indent)}
	for _, l := range r.Gaps {
		c.Gaps = append(c.Gaps, slices.Clone(l))
	}
	return c
}
