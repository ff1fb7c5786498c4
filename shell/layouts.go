package shell

import (
	"strings"

	"graft/api"
	"graft/layout"
)

// layout makes a layout of its rules.
func (c call) layout() string {
	gaps, err := gapsOf(c.words[4])
	if err != api.OK {
		return answer(err)
	}
	l, f := layout.New(c.language.Spec(), api.Rules{Blank: c.words[1], Line: c.words[2], Indent: c.words[3], Gaps: gaps})
	if f.Err != api.OK {
		return refused(f)
	}
	c.store.layouts[c.words[0]] = form{l, c.language}
	return answer(api.OK)
}

// gapsOf reads the letters of gaps, row by row.
func gapsOf(text string) ([][]int, api.Errno) {
	const letters = "nblio" // by the numbers of the gaps, from GNone on
	var rows [][]int
	for _, row := range strings.Split(text, ",") {
		var gaps []int
		for _, letter := range row {
			at := strings.IndexRune(letters, letter)
			if at < 0 {
				return nil, api.ErrLayout
			}
			gaps = append(gaps, api.GNone+at)
		}
		rows = append(rows, gaps)
	}
	return rows, api.OK
}

// print writes a version's tree by a layout.
func (c call) print() string {
	root, text, err := c.version(c.form.language)
	if err != api.OK {
		return answer(err)
	}
	printed, err := c.form.Print(root, text)
	return answer(err, Quote([]byte(printed)))
}
