package table_test

import (
	"reflect"
	"slices"
	"testing"

	"graft/api"
	"graft/states"
	"graft/table"
)

// roomy is a list's copy with spare room behind it, in which something stands.
func roomy(l []int) []int { return append(slices.Clone(l), 7, 1, -9)[:len(l)] }

// whole is a list with all its room.
func whole[T any](l []T) []T { return l[:cap(l)] }

// spoil writes over a list with all its room.
func spoil[T any](l []T, with T) {
	for i := range whole(l) {
		whole(l)[i] = with
	}
}

// TestRowsStay is P906: the row that is handed in, and its spare room, stay as they were.
func TestRowsStay(t *testing.T) {
	x := made(t, ten(t))
	for _, l := range [][]int{nil, {0}, {0, 1}, {0, 1, 2}, {0, 1, 5, 8, 10}, {0, 1, 5, 9}, {0, 2}, {1, 1}, {0, 1, 99}, {-1}} {
		for terminal := -1; terminal < 7; terminal++ {
			stack := roomy(l)
			before := slices.Clone(whole(stack))
			got, _ := x.Run(stack, terminal)
			spoil(got, -5)
			if !slices.Equal(whole(stack), before) {
				t.Errorf("P906: Run(%v, %d) left %v", l, terminal, whole(stack))
			}
		}
	}
}

// TestNothingKept is P2: to write over the row that was handed in, or over what was told, changes nothing of what is told later.
func TestNothingKept(t *testing.T) {
	x := made(t, ten(t))
	stack := []int{0, 1, 5, 8, 2}
	first, _ := x.Run(stack, 2)
	spoil(stack, 3)
	if !slices.Equal(first, []int{6, 4}) {
		t.Errorf("P2: the productions hang on the row: %v", first)
	}
	second, _ := x.Run([]int{0, 1, 5, 8, 2}, 2)
	spoil(second, -5)
	if !slices.Equal(first, []int{6, 4}) {
		t.Errorf("P2: the productions hang on other ones: %v", first)
	}
	spoil(first, -5)
	wantRun(t, x, []int{0, 1, 5, 8, 2}, 2, true, 6, 4)
	looks := [][]int{x.Look(0, 1), x.Look(0, 1), x.Look(4, 0)}
	for i, l := range looks {
		if !slices.Equal(l, []int{0, 4, 5}) {
			t.Errorf("P2: lookaheads %d hang on other ones: %v", i, l)
		}
		spoil(l, -5)
	}
	wantLook(t, x, 0, 1, 0, 4, 5)
	if got := printed(x); got != tenPrinted {
		t.Errorf("P2:\n%s", got)
	}
}

// torn has many conflicts, several of them in one state, with names that have longer sentences in their prefixes.
func torn(t *testing.T) *states.Automaton {
	t.Helper()
	return built(t, read(t, "token x = /x/; token y = /y/; start S; S = A x | B x | A y | B y | x x | S | S C | S C | S S error; A = x y; B = x y | x y; C = error y | ;"))
}

// TestConflictsApart is P2: all lists of all conflicts are memory of their own.
func TestConflictsApart(t *testing.T) {
	a := torn(t)
	want, got := table.All(a), table.All(a)
	if len(want) < 8 || !reflect.DeepEqual(want, got) {
		t.Fatalf("P3: %+v, and then %+v", want, got)
	}
	for i := range got {
		for k, c := range got[i:] {
			if !same(c, want[i+k]) {
				t.Errorf("P2: conflict %d hangs on others: %+v, not %+v", i+k, c, want[i+k])
			}
		}
		spoil(got[i].Prefix, term(99))
		if !slices.Equal(got[i].Example, want[i].Example) {
			t.Errorf("P2: the example of %d hangs on its prefix: %v", i, got[i].Example)
		}
		spoil(got[i].Example, -5)
	}
	spoil(got, api.Conflict{State: -5})
	if again := table.All(a); !reflect.DeepEqual(want, again) {
		t.Errorf("P2: %+v, not %+v", again, want)
	}
}

// TestAutomatonStays: neither call changes the automaton, and what is told of it later changes no table.
func TestAutomatonStays(t *testing.T) {
	for _, a := range []*states.Automaton{torn(t), built(t, ten(t))} {
		text, s := a.Print(), a.Spec()
		table.All(a)
		table.Make(a)
		if a.Print() != text || !reflect.DeepEqual(a.Spec(), s) {
			t.Errorf("P2: %s, not %s", a.Print(), text)
		}
	}
	x := made(t, ten(t))
	s := x.States().Spec()
	spoil(s.Productions, makes(2, name(2)))
	spoil(x.States().Path(9), term(9))
	if got := printed(x); got != tenPrinted {
		t.Errorf("P2:\n%s", got)
	}
	wantRun(t, x, []int{0, 1, 5, 9}, 5, true, 2, 0)
}

// TestApart: two tables of one automaton do not see one another, and answer the same.
func TestApart(t *testing.T) {
	a := built(t, ten(t))
	x, _ := table.Make(a)
	y, _ := table.Make(a)
	for range 3 {
		wantRun(t, x, []int{0, 1, 2}, 1, true, 6, 5)
		wantRun(t, y, []int{0, 1, 5, 9}, 0, true, 2, 0)
	}
	if printed(x) != tenPrinted || printed(y) != tenPrinted {
		t.Errorf("P3:\n%s\n%s", printed(x), printed(y))
	}
}
