package states

import (
	"cmp"
	"maps"
	"slices"

	"graft/api"
)

// state has a kernel, its arcs in the order of their symbols, and the arc by which it was found: the state from which it leads, and its symbol.
type state struct {
	kernel []item
	arcs   []arc
	from   int
	symbol api.Sym
}

// arc leads by a symbol to a state.
type arc struct {
	symbol api.Sym
	to     int
}

// inOrder compares symbols: terminals, error, names is the order of their kinds.
func inOrder(x, y api.Sym) int {
	return cmp.Or(cmp.Compare(x.Kind, y.Kind), cmp.Compare(x.N, y.N))
}

// behind tells the state behind a symbol; -1: none.
func (s state) behind(x api.Sym) int {
	at, ok := slices.BinarySearchFunc(s.arcs, x, func(a arc, x api.Sym) int { return inOrder(a.symbol, x) })
	if !ok {
		return -1
	}
	return s.arcs[at].to
}

// builder numbers states as they are found.
type builder struct {
	grammar
	list  []state
	known map[string]int // the numbers of states by their kernels
}

// states finds all states of a grammar, if they are not too many.
func (g grammar) states() ([]state, api.Errno) {
	b := builder{grammar: g, known: map[string]int{}}
	b.number(state{kernel: []item{begin(-1)}})
	for n := 0; n < len(b.list); n++ {
		b.leadOn(n)
		if len(b.list) > api.MaxStates {
			return nil, api.ErrStates
		}
	}
	return b.list, api.OK
}

// leadOn finds what lies behind a state.
func (b *builder) leadOn(n int) {
	kernels := map[api.Sym][]item{}
	for _, i := range b.closure(b.list[n].kernel) {
		if x, ok := b.behind(i); ok {
			kernels[x] = append(kernels[x], i.passed())
		}
	}
	var arcs []arc
	for _, x := range slices.SortedFunc(maps.Keys(kernels), inOrder) {
		slices.Sort(kernels[x])
		arcs = append(arcs, arc{x, b.number(state{kernel: kernels[x], from: n, symbol: x})})
	}
	b.list[n].arcs = arcs
}

// number tells the number of the state with a state's kernel; if there is none yet, this one becomes the next.
func (b *builder) number(s state) int {
	k := key(s.kernel)
	n, ok := b.known[k]
	if !ok {
		n = len(b.list)
		b.known[k] = n
		b.list = append(b.list, s)
	}
	return n
}

// key is a kernel as what maps can be asked by.
func key(kernel []item) string {
	out := make([]byte, 0, 2*len(kernel))
	for _, i := range kernel {
		out = append(out, byte(i>>8), byte(i))
	}
	return string(out)
}
