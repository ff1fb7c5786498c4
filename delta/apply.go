package delta

import (
	"graft/api"
	"graft/tree"
)

// builder does steps, with a row of nodes that wait for what is made of them.
type builder struct {
	store *tree.Store
	old   map[int]*tree.Node
	row   []*tree.Node
}

// do does a step: it is right only if it is the same as one that has nothing but what its kind names.
func (b *builder) do(step api.Op) api.Errno {
	switch step {
	case api.Op{Do: api.OKeep, Id: step.Id}:
		return b.keep(step.Id)
	case api.Op{Do: api.OLeaf, Leaf: step.Leaf}:
		b.row = append(b.row, b.store.Leaf(step.Leaf))
		return api.OK
	case api.Op{Do: api.OMake, Kind: step.Kind, N: step.N, Kids: step.Kids}:
		return b.join(step.Kind, step.N, step.Kids)
	}
	return api.ErrOp
}

// keep puts an old node behind the row.
func (b *builder) keep(id int) api.Errno {
	n, ok := b.old[id]
	if !ok {
		return api.ErrOp
	}
	b.row = append(b.row, n)
	return api.OK
}

// join puts a node in the place of the last ones of the row.
func (b *builder) join(kind, n, kids int) api.Errno {
	if kids < 0 || kids > len(b.row) {
		return api.ErrOp
	}
	from := len(b.row) - kids
	made, e := b.store.Make(kind, n, b.row[from:]...)
	if e != api.OK {
		return e
	}
	b.row = append(b.row[:from], made)
	return api.OK
}
