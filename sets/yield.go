package sets

import "graft/api"

// sentence is a row of terminals, a byte each, so that rows are soon held against each other; or none is known.
type sentence struct {
	known bool
	row   string
}

// sentences is the best sentence that is known of each name.
type sentences [api.MaxNames]sentence

// yields finds the least of the shortest sentences of all names of a grammar in order.
func yields(s api.Spec) ([][]int, api.Fault) {
	found := shortest(s)
	out := make([][]int, len(s.Names))
	for i := range out {
		if !found[i].known { // each name has sentences, so all of this one's are too long
			return nil, api.Fault{Err: api.ErrFull, At: i}
		}
		out[i] = found[i].list()
	}
	return out, api.Fault{}
}

// shortest leans on this: the best row of a right side is that of its symbols' best ones.
func shortest(s api.Spec) sentences {
	return least(sentences{}, func(l *sentences) bool {
		old := *l
		for _, p := range s.Productions {
			if x := l.join(s, p.Right); x.better(l[p.Left]) {
				l[p.Left] = x
			}
		}
		return *l != old
	})
}

// join puts the sentences of a right side's symbols in a row, if all are known and the row is not too long.
func (l *sentences) join(s api.Spec, right []api.Sym) sentence {
	var row []byte
	for _, x := range right {
		switch {
		case x.Kind != api.SName:
			row = append(row, byte(terminal(s, x)))
		case l[x.N].known:
			row = append(row, l[x.N].row...)
		default:
			return sentence{}
		}
		if len(row) > api.MaxYield {
			return sentence{}
		}
	}
	return sentence{known: true, row: string(row)}
}

func (x sentence) better(than sentence) bool {
	if !x.known || !than.known {
		return x.known
	}
	if len(x.row) != len(than.row) {
		return len(x.row) < len(than.row)
	}
	return x.row < than.row
}

func (x sentence) list() []int {
	out := make([]int, len(x.row))
	for i := range out {
		out[i] = int(x.row[i])
	}
	return out
}
