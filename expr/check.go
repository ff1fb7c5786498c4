package expr

import (
	"bytes"

	"graft/api"
)

// walk is what was seen of a tree, whatever it is made of.
type walk struct {
	values, depth int
}

// look goes no further than one value too many: a tree may hold itself, or one part so often that no walk through it would end.
func (w *walk) look(e api.Expr, depth int) {
	w.values++
	w.depth = max(w.depth, depth)
	for _, part := range e.List {
		if w.values > api.MaxPositions {
			return
		}
		w.look(part, depth+1)
	}
}

// bounds asks whether a tree is small enough to be looked at.
func bounds(e api.Expr) api.Errno {
	var w walk
	w.look(e, 1)
	switch {
	case w.values > api.MaxPositions:
		return api.ErrLong
	case w.depth > api.MaxNest:
		return api.ErrNest
	}
	return api.OK
}

// right asks whether all values of a tree are parts of patterns.
func right(e api.Expr) bool {
	if !rightTop(e) {
		return false
	}
	for _, part := range e.List {
		if !right(part) {
			return false
		}
	}
	return true
}

func rightTop(e api.Expr) bool {
	parts := len(e.List)
	switch e.Kind {
	case api.XRange:
		return 0 <= e.From && e.From <= e.To && e.To <= 255 && parts == 0 && e.Min == 0 && e.Max == 0
	case api.XSeq:
		return parts != 1 && bare(e)
	case api.XAlt:
		return parts >= 2 && bare(e)
	case api.XRepeat:
		return parts == 1 && rightTimes(e.Min, e.Max) && e.From == 0 && e.To == 0
	}
	return false
}

// bare asks whether a value says nothing but its kind and its list.
func bare(e api.Expr) bool {
	return e.From == 0 && e.To == 0 && e.Min == 0 && e.Max == 0
}

func rightTimes(least, most int) bool {
	return 0 <= least && least <= api.MaxRepeat && (most == -1 || least <= most && most <= api.MaxRepeat)
}

// positions counts no further than one more than there may be, so that no product of repetitions grows out of an int.
func positions(e api.Expr) int {
	if e.Kind == api.XRange {
		return 1
	}
	n := 0
	for _, part := range e.List {
		n = min(n+positions(part), api.MaxPositions+1)
	}
	if e.Kind == api.XRepeat {
		n = min(n*copies(e), api.MaxPositions+1)
	}
	return n
}

// copies tells how often the part of a repetition stands in the unrolled pattern.
func copies(e api.Expr) int {
	if e.Max == -1 {
		return max(e.Min, 1)
	}
	return e.Max
}

// empty asks whether a pattern matches the empty row.
func empty(e api.Expr) bool {
	switch e.Kind {
	case api.XRange:
		return false
	case api.XAlt:
		for _, part := range e.List {
			if empty(part) {
				return true
			}
		}
		return false
	case api.XRepeat:
		return e.Min == 0 || empty(e.List[0])
	}
	for _, part := range e.List {
		if !empty(part) {
			return false
		}
	}
	return true
}

// shortest does not look into what may be left out: without positions of its own that may be of any length.
func shortest(e api.Expr) []byte {
	switch e.Kind {
	case api.XRange:
		return []byte{byte(e.From)}
	case api.XAlt:
		return shortestOf(e.List)
	case api.XRepeat:
		if e.Min == 0 {
			return nil
		}
		return bytes.Repeat(shortest(e.List[0]), e.Min)
	}
	var row []byte
	for _, part := range e.List {
		row = append(row, shortest(part)...)
	}
	return row
}

func shortestOf(parts []api.Expr) []byte {
	best := shortest(parts[0])
	for _, part := range parts[1:] {
		row := shortest(part)
		if len(row) < len(best) || len(row) == len(best) && bytes.Compare(row, best) < 0 {
			best = row
		}
	}
	return best
}
