package layout_test

import (
	"testing"

	"graft/api"
	"graft/tree"
)

// TestEdits are cases of P1704 by hand.
func TestEdits(t *testing.T) {
	e := compiled(t, noted)
	s := e.Spec()
	for _, c := range []struct {
		what, text string
		want       []api.Edit
	}{
		{"nothing at all", "", nil},
		{"nothing to be edited", "1 + 2;\n3;", nil},
		{"nothing to be edited, with comments", "#a\n1 #b\n#c\n+ 2; #d\n", nil},
		{"nothing to be edited, wrong", "1 2  #a\n3;4;", nil},
		{"nothing but the end leaf's trivia", " \n ", []api.Edit{edit(0, 3, "")}},
		{"nothing but the end leaf's trivia, a comment", "#a", []api.Edit{edit(0, 2, " #a\n")}},
		{"nothing but the end leaf's trivia, as it stands", " #a\n", nil},
		{"everything", " 1+2\n;3 ;\n", []api.Edit{edit(0, 1, ""), edit(2, 0, " "), edit(3, 0, " "), edit(4, 1, ""), edit(6, 0, "\n"), edit(7, 1, ""), edit(9, 1, "")}},
		{"the first piece's trivia", "\n#a\n 1;", []api.Edit{edit(0, 5, "#a\n")}},
		{"the first piece's trivia, without a comment", "\n1;", []api.Edit{edit(0, 1, "")}},
		{"the end leaf's trivia", "1; ", []api.Edit{edit(2, 1, "")}},
		{"the end leaf's trivia, a comment", "1;#a", []api.Edit{edit(2, 2, " #a\n")}},
		{"the end leaf's trivia, more than there should be", "1; #a\n\n", []api.Edit{edit(2, 5, " #a\n")}},
		{"a comment that moves", "1\n#a\n+ 2;", []api.Edit{edit(1, 4, " #a\n")}},
		{"as long, but of other bytes", "1\n+\n2; 3;", []api.Edit{edit(1, 1, " "), edit(3, 1, " "), edit(6, 1, "\n")}},
		{"ahead of an error node, and not within", "1;  2  3  ;", []api.Edit{edit(2, 2, "\n"), edit(8, 2, "")}},
		{"behind an error node", "@ ;", []api.Edit{edit(1, 1, "")}},
		{"an error node without leaves", "1; ;", []api.Edit{edit(2, 1, "\n")}},
	} {
		v := opened(t, e, c.text)
		wantEdits(t, c.what, s, usual(s), v, c.want...)
		printed, err := laid(t, s, usual(s)).Print(v.root, []byte(v.text))
		if err != api.OK || done(c.text, c.want) != printed {
			t.Errorf("P1706: %s: %q, %v", c.what, printed, err)
		}
	}
}

// TestEditsByHand are cases of P1704 in trees by hand: where the end leaf stands changes nothing of its edit.
func TestEditsByHand(t *testing.T) {
	s := readSpec(t, noted)
	const text = " 1 2 #a"
	for _, nodes := range []func(*tree.Store, []*tree.Node) []*tree.Node{
		func(store *tree.Store, l []*tree.Node) []*tree.Node { return l },
		func(store *tree.Store, l []*tree.Node) []*tree.Node {
			return []*tree.Node{made(t, store, api.NError, 0, l...)}
		},
		func(store *tree.Store, l []*tree.Node) []*tree.Node {
			return []*tree.Node{l[0], made(t, store, api.NError, 0, l[1], made(t, store, api.NInner, 4, l[2]))}
		},
		func(store *tree.Store, l []*tree.Node) []*tree.Node {
			return []*tree.Node{l[0], l[1], made(t, store, api.NError, 0, made(t, store, api.NError, 0), l[2])}
		},
	} {
		store := tree.New()
		root := made(t, store, api.NRoot, 0, nodes(store, leafNodes(t, store, s.Lex, text))...)
		wantEdits(t, "by hand", s, usual(s), version{root, text}, edit(0, 1, ""), edit(4, 3, " #a\n"))
	}
}
