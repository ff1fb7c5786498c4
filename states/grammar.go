package states

import (
	"slices"

	"graft/api"
)

// item is an api.Item as one number, so that kernels are small; the numbers rise in the order of items.
type item uint16

// dots is how many places a right side can have.
const dots = api.MaxRight + 1

// begin is the item of a production with nothing passed.
func begin(production int) item { return item((production + 1) * dots) }

func (i item) production() int { return int(i)/dots - 1 }

func (i item) dot() int { return int(i) % dots }

// passed is the item with the dot one further.
func (i item) passed() item { return i + 1 }

// told is a list of items as the face tells it.
func told(list []item) []api.Item {
	out := make([]api.Item, len(list))
	for k, i := range list {
		out[k] = api.Item{Production: i.production(), Dot: i.dot()}
	}
	return out
}

// grammar is what closures ask of a spec that is in order.
type grammar struct {
	rights [][]api.Sym // that of the added production, then those of the productions
	begins [][]item    // for each name the items of its productions with nothing passed
}

func newGrammar(s api.Spec) grammar {
	g := grammar{
		rights: [][]api.Sym{{{Kind: api.SName, N: s.Start}}},
		begins: make([][]item, len(s.Names)),
	}
	for i, p := range s.Productions {
		g.rights = append(g.rights, p.Right)
		g.begins[p.Left] = append(g.begins[p.Left], begin(i))
	}
	return g
}

// behind tells the symbol behind an item, and whether there is one.
func (g grammar) behind(i item) (api.Sym, bool) {
	right, dot := g.rights[i.production()+1], i.dot()
	if dot == len(right) {
		return api.Sym{}, false
	}
	return right[dot], true
}

// closure tells the items of a kernel, and behind them the others of its closure. Those have nothing passed, and no kernel but that of state 0 has such ones, so none comes twice.
func (g grammar) closure(kernel []item) []item {
	list := slices.Clone(kernel)
	var taken [api.MaxNames]bool
	at := 0
next:
	if at < len(list) {
		x, ok := g.behind(list[at])
		at++
		if ok && x.Kind == api.SName && !taken[x.N] {
			taken[x.N] = true
			list = append(list, g.begins[x.N]...)
		}
		goto next
	}
	slices.Sort(list[len(kernel):])
	return list
}
