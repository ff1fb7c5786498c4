package paint

import (
	"cmp"
	"slices"

	"graft/api"
)

// lines are the places of a text at which lines end.
type lines []int

func linesOf(text []byte) lines {
	var all lines
	for at, c := range text {
		if c == '\n' {
			all = append(all, at)
		}
	}
	return all
}

// endWithin says whether a line ends from one place on, ahead of another.
func (l lines) endWithin(from, to int) bool {
	i, _ := slices.BinarySearch(l, from)
	return i < len(l) && l[i] < to
}

// outerFirst is the order of folds.
func outerFirst(a, b api.Span) int {
	return cmp.Or(cmp.Compare(a.From, b.From), cmp.Compare(b.To, a.To))
}
