package desk_test

import (
	"math/rand"
	"slices"
	"testing"

	"graft/api"
	"graft/desk"
)

// unit is a row of acts that stay together, by their places.
type unit []int

// units parts a row of acts: a batch stays together with the N acts behind it, as many of them as there are, whatever they are.
func units(l []api.Act) []unit {
	var out []unit
	until := 0
	for i, a := range l {
		if i < until {
			out[len(out)-1] = append(out[len(out)-1], i)
		} else {
			out = append(out, unit{i})
		}
		if a.Kind == api.ABatch && a.N > 0 {
			until = max(until, i+1+min(a.N, len(l)))
		}
	}
	return out
}

// bound says whether one unit must stay ahead of another: acts of one document do, and all that open and close.
func bound(l []api.Act, a, b unit) bool {
	for _, i := range a {
		for _, k := range b {
			x, y := l[i], l[k]
			if x.Doc == y.Doc || (x.Kind == api.AOpen || x.Kind == api.AClose) && (y.Kind == api.AOpen || y.Kind == api.AClose) {
				return true
			}
		}
	}
	return false
}

// shuffled is another order of the places of acts, as P1906 lets it be: again and again one of the units is taken for which none is left that must stand ahead of it.
func shuffled(r *rand.Rand, l []api.Act) (out []int) {
	left := units(l)
	for len(left) > 0 {
		var free []int
		for i, u := range left {
			if !slices.ContainsFunc(left[:i], func(ahead unit) bool { return bound(l, ahead, u) }) {
				free = append(free, i)
			}
		}
		i := some(r, free...)
		out = append(out, left[i]...)
		left = slices.Delete(left, i, i+1)
	}
	return out
}

// reordered has acts done in another order, and tells the replies in the first one.
func reordered(d *desk.Desk, l []api.Act, order []int) []api.Reply {
	moved := make([]api.Act, len(l))
	for i, k := range order {
		moved[i] = l[k]
	}
	got := d.Do(moved)
	out := make([]api.Reply, len(l))
	for i, k := range order {
		out[k] = got[i]
	}
	return out
}

// TestSideBySide is P1906: acts in another order are answered the same, at desks of any number of workers; and what they leave behind is the same.
func TestSideBySide(t *testing.T) {
	t.Parallel()
	r := rand.New(rand.NewSource(1906))
	moves := 0
	for _, l := range languages() {
		e := compiled(t, l.spec)
		for range 50 {
			w := newDrawer(r, l)
			w.long = nil
			a, b := laid(t, e, 1+r.Intn(api.MaxWorkers)), laid(t, e, 1+r.Intn(api.MaxWorkers))
			for range 4 {
				acts := w.acts(60)
				order := shuffled(r, acts)
				if !slices.IsSorted(order) {
					moves++
				}
				wantSame(t, acts, a.Do(acts), reordered(b, acts, order))
			}
			wantSame(t, nil, everything(a), everything(b))
			if !slices.Equal(a.Docs(), b.Docs()) {
				t.Fatalf("P1906: %q, not %q", b.Docs(), a.Docs())
			}
		}
	}
	if moves < 500 {
		t.Errorf("too few orders: %d", moves)
	}
}

// wantSame holds two rows of replies against each other, Ids left out.
func wantSame(t testing.TB, acts []api.Act, a, b []api.Reply) {
	t.Helper()
	if len(a) != len(b) {
		t.Fatalf("P1906: %d and %d replies", len(a), len(b))
	}
	for i := range a {
		if !sameReply(a[i], b[i]) {
			t.Fatalf("P1906: act %d of %+v: %+v and %+v", i, acts, a[i], b[i])
		}
	}
}

// everything asks a desk for what all sessions see of its documents, and what they would see if they went back, or on again; they stand where they stood then.
func everything(d *desk.Desk) (out []api.Reply) {
	for _, name := range d.Docs() {
		for session := range api.MaxSessions {
			out = append(out, d.Do(list(asks(api.AText, session, name), asks(api.ATree, session, name), asks(api.AErrors, session, name)))...)
			for _, way := range [][2]int{{api.AUndo, api.ARedo}, {api.ARedo, api.AUndo}} {
				r := d.Do(list(asks(way[0], session, name)))
				if out = append(out, r...); r[0].Err == api.OK {
					out = append(out, d.Do(list(asks(api.AText, session, name), asks(way[1], session, name)))...)
				}
			}
		}
	}
	return out
}

// TestOpenedInOrder is P1906 at its edge: which of the documents is one too many hangs on the order of AOpen and AClose alone, wherever other acts stand.
func TestOpenedInOrder(t *testing.T) {
	e := compiled(t, ten)
	var acts []api.Act
	for i := range 80 {
		name := string(rune('!' + i))
		acts = append(acts, opens(name, "1;"), edits(0, name, 0, 0, "2"), asks(api.AText, 0, name))
		if i%5 == 4 {
			acts = append(acts, closes(string(rune('!'+i-2))), asks(api.AText, 0, name))
		}
	}
	r := rand.New(rand.NewSource(1907))
	want := laid(t, e, 1).Do(acts)
	full := 0
	for _, x := range want {
		if x.Err == api.ErrFull {
			full++
		}
	}
	if full == 0 {
		t.Error("P1902: there are 65 documents")
	}
	for range 20 {
		wantSame(t, acts, want, reordered(laid(t, e, 1+r.Intn(api.MaxWorkers)), acts, shuffled(r, acts)))
	}
}
