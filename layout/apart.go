package layout

import (
	"slices"

	"graft/api"
)

// parted asks for a blank wherever two pieces would run together.
func (l *Layout) parted(r reading, pieces []piece) []piece {
	for i := 1; i < len(pieces)-1; i++ {
		if pieces[i].form == asNothing && l.runTogether(r, pieces[i-1], pieces[i]) {
			pieces[i].form = asBlank
		}
	}
	return pieces
}

// runTogether says whether two pieces, the one directly behind the other, are not the leaves that they are apart.
func (l *Layout) runTogether(r reading, a, b piece) bool {
	apart := slices.Concat(r.leavesOf(a), r.leavesOf(b), []api.Leaf{{Kind: api.KEnd}})
	return !slices.Equal(l.leaves(r.bytesOf(a)+r.bytesOf(b)), apart)
}
