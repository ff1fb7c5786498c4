package states_test

import (
	"fmt"
	"math/rand"
	"slices"
	"testing"

	"graft/api"
	"graft/states"
)

// form is a right-sentential form of a spec.
type form []api.Sym

// rightmost is the place of a form's last name; -1: none.
func (f form) rightmost() int {
	for i, x := range slices.Backward(f) {
		if x.Kind == api.SName {
			return i
		}
	}
	return -1
}

// step replaces the rightmost name by a right side of it, and tells the form up to the end of the handle.
func (m model) step(f form, production int) (form, []api.Sym) {
	at, p := f.rightmost(), m.s.Productions[production]
	if f[at] != name(p.Left) {
		panic("no step of a rightmost derivation")
	}
	front := slices.Concat(f[:at], p.Right)
	return slices.Concat(front, f[at+1:]), front
}

// shortest is for each name a production that leads soonest to terminals alone.
func (m model) shortest() []int {
	out := slices.Repeat([]int{-1}, len(m.s.Names))
	for slices.Contains(out, -1) {
		then := slices.Clone(out)
		for i, p := range m.s.Productions {
			if out[p.Left] == -1 && !slices.ContainsFunc(p.Right, func(x api.Sym) bool { return x.Kind == api.SName && out[x.N] == -1 }) {
				then[p.Left] = i
			}
		}
		out = then
	}
	return out
}

// of are the productions of a name.
func (m model) of(left int) []int {
	var out []int
	for i, p := range m.s.Productions {
		if p.Left == left {
			out = append(out, i)
		}
	}
	return out
}

// wantHandle is P806: the row up to the end of a handle leads to a state with the item of its production, all passed, and each front of it leads somewhere.
func wantHandle(t *testing.T, m model, a *states.Automaton, front []api.Sym, production int) {
	t.Helper()
	for i := range front {
		if a.Run(front[:i]) < 0 {
			t.Fatalf("P806: %v leads nowhere, of %+v", front[:i], m.s)
		}
	}
	want := api.Item{Production: production, Dot: len(m.right(production))}
	if n := a.Run(front); n < 0 || !slices.Contains(a.Items(n), want) {
		t.Fatalf("P806: %v leads to %d, with %v, not %v, of %+v", front, n, a.Items(n), want, m.s)
	}
}

// TestDerivations: rightmost derivations from Start, as they come; when they grow long they are led to their ends.
func TestDerivations(t *testing.T) {
	r := rand.New(rand.NewSource(7))
	for _, h := range shapes()[:8] {
		for range 15 {
			s := random(r, h)
			m := model{s}
			a, fault := states.Build(s)
			if fault.Err == api.ErrStates {
				continue
			}
			shortest := m.shortest()
			for range 10 {
				f := form{name(s.Start)}
				wantHandle(t, m, a, f, -1)
				for steps := 0; f.rightmost() >= 0 && steps < 300; steps++ {
					left := f[f.rightmost()].N
					production := shortest[left]
					if list := m.of(left); steps < 20 {
						production = list[r.Intn(len(list))]
					}
					var front []api.Sym
					f, front = m.step(f, production)
					wantHandle(t, m, a, front, production)
				}
			}
		}
	}
}

// viable finds, by rightmost derivations from Start, all viable prefixes of at most most symbols. It needs one form for each row that ends with a name on which a step is done: what stands behind that name is terminals, and changes nothing.
func (m model) viable(t *testing.T, a *states.Automaton, most int) map[string][]api.Sym {
	shortest := m.shortest()
	out := map[string][]api.Sym{}
	keep := func(front []api.Sym) {
		for i := range min(len(front), most) + 1 {
			out[fmt.Sprint(front[:i])] = front[:i]
		}
	}
	begin := form{name(m.s.Start)}
	keep(begin)
	seen := map[string]bool{fmt.Sprint(begin): true}
	for list := []form{begin}; len(list) > 0; list = list[1:] {
		f := list[0]
		at := f.rightmost()
		for _, production := range m.of(f[at].N) {
			next, front := m.step(f, production)
			wantHandle(t, m, a, front, production)
			keep(front)
			for last := next.rightmost(); last >= at; last = next.rightmost() {
				if k := fmt.Sprint(next[:last+1]); !seen[k] && last <= most {
					seen[k] = true
					list = append(list, next)
				}
				soonest := shortest[next[last].N]
				next, front = m.step(next, soonest)
				wantHandle(t, m, a, front, soonest)
			}
		}
	}
	return out
}

// TestViable is P806: of all rows of a few symbols just those lead somewhere that are viable prefixes.
func TestViable(t *testing.T) {
	r := rand.New(rand.NewSource(8))
	specs := []api.Spec{ten(t), mixed()}
	for range 150 {
		specs = append(specs, random(r, shape{1 + r.Intn(3), r.Intn(4), r.Intn(4), 1 + r.Intn(2)}))
	}
	for _, s := range specs {
		m := model{s}
		a := built(t, s)
		const most = 4
		viable := m.viable(t, a, most)
		for _, l := range viable {
			if a.Run(l) < 0 {
				t.Fatalf("P806: %v leads nowhere, of %+v", l, s)
			}
			if len(l) == most {
				continue
			}
			for _, x := range m.symbols() {
				more := append(slices.Clone(l), x)
				if _, is := viable[fmt.Sprint(more)]; is != (a.Run(more) >= 0) {
					t.Fatalf("P806: %v is viable: %v, but leads to %d, of %+v", more, is, a.Run(more), s)
				}
			}
		}
	}
}
