package expr_test

import (
	"fmt"
	"math/rand"
	"slices"

	"graft/api"
)

func rng(from, to int) api.Expr { return api.Expr{Kind: api.XRange, From: from, To: to} }

func one(c int) api.Expr { return rng(c, c) }

func seq(list ...api.Expr) api.Expr { return api.Expr{Kind: api.XSeq, List: list} }

func alt(list ...api.Expr) api.Expr { return api.Expr{Kind: api.XAlt, List: list} }

func rep(least, most int, e api.Expr) api.Expr {
	return api.Expr{Kind: api.XRepeat, Min: least, Max: most, List: []api.Expr{e}}
}

// same holds of trees that are alike, lists without anything too.
func same(a, b api.Expr) bool {
	return a.Kind == b.Kind && a.From == b.From && a.To == b.To && a.Min == b.Min && a.Max == b.Max && slices.EqualFunc(a.List, b.List, same)
}

// brief tells the beginning of a tree.
func brief(e api.Expr) string {
	text := fmt.Sprint(e)
	return text[:min(len(text), 200)]
}

// copied is a tree that shares nothing with e.
func copied(e api.Expr) api.Expr {
	list := make([]api.Expr, len(e.List))
	for i, part := range e.List {
		list[i] = copied(part)
	}
	e.List = list
	return e
}

// some is a tree of at most that depth, over the bytes a to c, or over all of them.
func some(d *rand.Rand, depth int, all bool) api.Expr {
	if depth == 1 || d.Intn(4) == 0 {
		return someRange(d, all)
	}
	switch d.Intn(3) {
	case 0:
		list := someList(d, d.Intn(4), depth, all)
		if len(list) == 1 {
			list = nil
		}
		return seq(list...)
	case 1:
		return alt(someList(d, 2+d.Intn(2), depth, all)...)
	}
	least := d.Intn(3)
	most := least + d.Intn(3)
	if d.Intn(3) == 0 {
		most = -1
	}
	return rep(least, most, some(d, depth-1, all))
}

func someList(d *rand.Rand, n, depth int, all bool) []api.Expr {
	var list []api.Expr
	for range n {
		list = append(list, some(d, depth-1, all))
	}
	return list
}

func someRange(d *rand.Rand, all bool) api.Expr {
	from, to := 'a'+d.Intn(3), 'a'+d.Intn(3)
	if all {
		from, to = d.Intn(256), d.Intn(256)
	}
	switch {
	case all && d.Intn(8) == 0:
		from, to = 0, 255
	case d.Intn(2) == 0:
		to = from
	}
	return rng(min(from, to), max(from, to))
}

// places are those of a text, true for the ones that are meant.
type places [16]bool

func (p places) join(q places) places {
	for i := range q {
		p[i] = p[i] || q[i]
	}
	return p
}

// ends tells where a row of bytes that e matches may end, if it begins at one of from: as the chapter says it of trees.
func ends(e api.Expr, b string, from places) places {
	var out places
	switch e.Kind {
	case api.XRange:
		for i, c := range []byte(b) {
			out[i+1] = from[i] && e.From <= int(c) && int(c) <= e.To
		}
	case api.XSeq:
		out = from
		for _, part := range e.List {
			out = ends(part, b, out)
		}
	case api.XAlt:
		for _, part := range e.List {
			out = out.join(ends(part, b, from))
		}
	case api.XRepeat:
		for k := 0; k <= e.Max || e.Max == -1 && k <= e.Min+len(b); k++ {
			if k >= e.Min {
				out = out.join(from)
			}
			from = ends(e.List[0], b, from)
		}
	}
	return out
}

// lives tells whether the rest of b, from one of from on, begins a row that e matches.
func lives(e api.Expr, b string, from places) bool {
	if from == (places{}) {
		return false
	}
	if from[len(b)] || ends(e, b, from)[len(b)] {
		return true
	}
	switch e.Kind {
	case api.XSeq:
		for _, part := range e.List {
			if lives(part, b, from) {
				return true
			}
			from = ends(part, b, from)
		}
	case api.XAlt:
		for _, part := range e.List {
			if lives(part, b, from) {
				return true
			}
		}
	case api.XRepeat:
		for k := 0; k < e.Max || e.Max == -1 && k <= e.Min+len(b); k++ {
			if lives(e.List[0], b, from) {
				return true
			}
			from = ends(e.List[0], b, from)
		}
	}
	return false
}

// longest is the model of Longest.
func longest(e api.Expr, b string) int {
	out := ends(e, b, places{true})
	for i := len(b); i >= 0; i-- {
		if out[i] {
			return i
		}
	}
	return -1
}

// least is the model of Shortest: it tries all rows of a to c, up to four bytes.
func least(e api.Expr) (string, bool) {
	rows := []string{""}
	for range 5 {
		var more []string
		for _, row := range rows {
			if longest(e, row) == len(row) {
				return row, true
			}
			more = append(more, row+"a", row+"b", row+"c")
		}
		rows = more
	}
	return "", false
}
