package reuse

import (
	"graft/api"
	"graft/tree"
)

// kept is which of a text's leaves are an older one's: so many ahead and behind, of so many new ones and so many old ones.
type kept struct {
	ahead, behind, news, olds int
}

// fits says whether there are so many leaves, in both texts. (A sum might wrap round.)
func (k kept) fits() bool {
	most := min(k.news, k.olds)
	return k.ahead >= 0 && k.behind >= 0 && k.ahead <= most && k.behind <= most-k.ahead
}

func (k kept) none() bool { return k.ahead+k.behind == 0 }

// all says whether nothing has changed.
func (k kept) all() bool { return k.news == k.olds && k.ahead+k.behind == k.olds }

// was tells the old place of a new leaf, if it is kept, and the place up to which the old leaves from there on stand in the new text in one row.
func (k kept) was(i int) (place, limit int, ok bool) {
	switch {
	case i < k.ahead:
		return i, k.ahead, true
	case i >= k.news-k.behind:
		return i - k.news + k.olds, k.olds, true
	}
	return 0, 0, false
}

// is tells the new place of an old leaf, if it is kept.
func (k kept) is(place int) (i int, ok bool) {
	switch {
	case place < k.ahead:
		return place, true
	case place >= k.olds-k.behind:
		return place - k.olds + k.news, true
	}
	return 0, false
}

// some says whether one of the old leaves from a place up to another is kept.
func (k kept) some(from, to int) bool { return from < to && (from < k.ahead || to > k.olds-k.behind) }

// whole says whether they all are, and stand in one row.
func (k kept) whole(from, to int) bool { return to <= k.ahead || from >= k.olds-k.behind }

// find tells the old nodes of the new leaves that are kept, by their new places; false, if one of them is not what it was.
func (k kept) find(old *tree.Node, leaves []api.Leaf) ([]*tree.Node, bool) {
	list := make([]*tree.Node, len(leaves))
	place := 0
	for _, n := range old.Leaves() {
		if i, ok := k.is(place); ok {
			if l, _ := n.Leaf(); l != leaves[i] {
				return nil, false
			}
			list[i] = n
		}
		place++
	}
	return list, true
}
