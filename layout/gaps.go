package layout

import "graft/api"

// form is what stands between two pieces, if no comment does.
type form int

// The greater ones count, where gaps ask for several.
const (
	asNothing form = iota
	asBlank
	asLine
)

// asked is what the gaps behind the last piece ask for, and how deep all gaps so far have led.
type asked struct {
	form  form
	depth int
}

// kinds is what each kind of gap does, by their numbers.
func (a *asked) kinds() [api.GOut + 1]func() {
	return [...]func(){
		api.GNone:  func() {},
		api.GBlank: func() { a.form = max(a.form, asBlank) },
		api.GLine:  func() { a.form = asLine },
		api.GIn:    func() { a.form, a.depth = asLine, a.depth+1 },
		api.GOut:   func() { a.form, a.depth = asLine, max(0, a.depth-1) },
	}
}
