package sets_test

import (
	"reflect"
	"slices"
	"testing"

	"graft/api"
	"graft/sets"
)

// roomy is a list's copy with spare room behind it, in which something stands.
func roomy[T any](l []T, spare T) []T {
	return append(slices.Clone(l), spare, spare, spare)[:len(l)]
}

// roomySpec is a spec all of whose lists have spare room.
func roomySpec(s api.Spec) api.Spec {
	s.Lex = roomy(s.Lex, api.LexRule{Name: "spare"})
	s.Names = roomy(s.Names, "spare")
	s.Productions = roomy(s.Productions, makes(7, term(7)))
	for i, p := range s.Productions {
		s.Productions[i].Right = roomy(p.Right, term(9))
	}
	return s
}

// whole is a list with all its room.
func whole[T any](l []T) []T { return l[:cap(l)] }

// image is a copy of all that a spec holds, spare room too.
func image(s api.Spec) api.Spec {
	s.Lex, s.Names, s.Productions = slices.Clone(whole(s.Lex)), slices.Clone(whole(s.Names)), slices.Clone(whole(s.Productions))
	for i, p := range s.Productions {
		s.Productions[i].Right = slices.Clone(whole(p.Right))
	}
	return s
}

// TestArguments: what is handed in stays as it was, in order or not.
func TestArguments(t *testing.T) {
	specs := []api.Spec{roomySpec(example()), roomySpec(broad()), roomySpec(hollow(1)), roomySpec(doubling(14, []api.Sym{term(0)}))}
	for _, c := range turns() {
		s := broad()
		c.do(&s)
		specs = append(specs, roomySpec(s))
	}
	for i, s := range specs {
		row, next := roomy([]api.Sym{name(1), name(0), wrong()}, term(9)), roomy([]int{1, 0, 1}, 77)
		before, rowBefore, nextBefore := image(s), slices.Clone(whole(row)), slices.Clone(whole(next))
		sets.Check(s)
		sets.Nullable(s)
		sets.First(s)
		sets.Follow(s)
		sets.Yields(s)
		sets.Heads(s, row, next)
		sets.Heads(s, nil, next)
		if !reflect.DeepEqual(image(s), before) {
			t.Errorf("P2: spec %d is %+v, not %+v", i, image(s), before)
		}
		if !slices.Equal(whole(row), rowBefore) || !slices.Equal(whole(next), nextBefore) {
			t.Errorf("P2: spec %d: the row is %v, next is %v", i, whole(row), whole(next))
		}
	}
}

// spoil writes over a list with all its room.
func spoil(l []int) {
	for i := range whole(l) {
		whole(l)[i] = -99
	}
}

// TestNewMemory: to write over one list of an answer changes no other one, no argument, and no later answer.
func TestNewMemory(t *testing.T) {
	s := roomySpec(broad())
	before, want := image(s), tell(t, s)
	for i, call := range []func(api.Spec) ([][]int, api.Fault){sets.First, sets.Follow, sets.Yields} {
		for k := range s.Names {
			got, _ := call(s)
			old := make([][]int, len(got))
			for j, l := range got {
				old[j] = slices.Clone(l)
			}
			spoil(got[k])
			got[k], old[k] = nil, nil
			if !sameLists(got, old) {
				t.Errorf("P2: call %d: name %d shares its list: %v, not %v", i, k, got, old)
			}
			for j := range whole(got) {
				whole(got)[j] = nil
			}
		}
	}
	null, _ := sets.Nullable(s)
	for i := range whole(null) {
		whole(null)[i] = !whole(null)[i]
	}
	next := []int{6, 4, 0}
	for range 2 {
		heads, _ := sets.Heads(s, nil, next)
		if !slices.Equal(heads, []int{0, 4, 6}) {
			t.Errorf("P2: heads %v", heads)
		}
		spoil(heads)
	}
	if !slices.Equal(next, []int{6, 4, 0}) || !reflect.DeepEqual(image(s), before) || !tell(t, s).same(want) {
		t.Errorf("P2: %v, %+v, %+v", next, image(s), tell(t, s))
	}
}

// TestUnseen: patterns and names of all sorts change nothing, whatever they are.
func TestUnseen(t *testing.T) {
	want := tell(t, example())
	s := example()
	deep := api.Expr{Kind: -5}
	for range 1000 {
		deep = api.Expr{Kind: 99, List: []api.Expr{deep}}
	}
	for i := range s.Lex {
		s.Lex[i].Name, s.Lex[i].Expr = "error", deep
	}
	s.Names = []string{"", "error", "error"}
	if got := tell(t, s); !got.same(want) {
		t.Errorf("P6: %+v, not %+v", got, want)
	}
}

// TestSlowChains: the worst orders of productions, with long rows, still end soon.
func TestSlowChains(t *testing.T) {
	s := sixteens(0)
	s.Names, s.Start = make([]string, 128), 127
	s.Productions = s.Productions[:3]
	for i := 127; i > 3; i-- {
		for range 4 {
			s.Productions = append(s.Productions, makes(i, name(i-1)))
		}
	}
	s.Productions = append(s.Productions, makes(3, name(0)))
	got := tell(t, s)
	if got.full != (api.Fault{}) || len(got.yields) != 128 || len(got.yields[127]) != 4096 {
		t.Errorf("P706: %+v", got.full)
	}
}
