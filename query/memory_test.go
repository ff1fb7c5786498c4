package query_test

import (
	"reflect"
	"slices"
	"strings"
	"testing"
	"unsafe"

	"graft/api"
	"graft/query"
	"graft/tree"
)

// roomy is a list's copy with spare room behind it, in which something stands.
func roomy[T any](l []T, spare T) []T {
	return append(slices.Clone(l), spare, spare, spare)[:len(l)]
}

// whole is a list with all its room.
func whole[T any](l []T) []T { return l[:cap(l)] }

// spoil writes over a list and all its room.
func spoil[T any](l []T, with T) {
	for i := range whole(l) {
		whole(l)[i] = with
	}
}

// roomySpec is a spec all of whose lists have spare room.
func roomySpec(s api.Spec) api.Spec {
	s.Lex = roomy(s.Lex, api.LexRule{Name: "spare"})
	s.Names = roomy(s.Names, "spare")
	s.Productions = roomy(s.Productions, api.Production{Left: 1})
	for i, p := range s.Productions {
		s.Productions[i].Right = roomy(p.Right, api.Sym{Kind: 7})
	}
	return s
}

// image is a copy of all that a spec holds, spare room too.
func image(s api.Spec) api.Spec {
	s.Lex, s.Names, s.Productions = slices.Clone(whole(s.Lex)), slices.Clone(whole(s.Names)), slices.Clone(whole(s.Productions))
	for i, p := range s.Productions {
		s.Productions[i].Right = slices.Clone(whole(p.Right))
	}
	return s
}

// spoilSpec writes over all lists of a spec.
func spoilSpec(s api.Spec) {
	for _, p := range s.Productions {
		spoil(p.Right, api.Sym{Kind: api.SName, N: 3})
	}
	spoil(s.Lex, api.LexRule{Name: "spoilt", Trivia: true})
	spoil(s.Names, "spoilt")
	spoil(s.Productions, api.Production{Left: 3})
}

// spoilMatch writes over all lists of a finding, and behind them.
func spoilMatch(m api.Match) {
	for _, c := range m.Caps {
		_ = append(c.Path, -1, -2)
		spoil(c.Path, -7)
	}
	_ = append(m.Caps, api.Cap{Name: "behind"})
	spoil(m.Caps, api.Cap{Name: "spoilt", Path: []int{-9}, From: -1, To: -1})
}

// deepCopy is a copy of findings that shares nothing with them.
func deepCopy(l []api.Match) (out []api.Match) {
	for _, m := range l {
		m.Caps = slices.Clone(m.Caps)
		for i := range m.Caps {
			m.Caps[i].Path = slices.Clone(m.Caps[i].Path)
		}
		out = append(out, m)
	}
	return out
}

// asks are queries of the examples' language with captures at many places.
func asks() []string {
	return []string{"_ @x", "num @x plus @y (S) @z", "(L ~ num @x ~ _ @y) @z", `(E ~ num ^ "1" @a . plus @b . (T) @c .) @d`, "(_ _ @x) @y", `(! _ @x) $ @y ! = "#" @z`, "(L .) @x", `(S (E) - "2" @e semi @s .)`}
}

const sample = "1+2; 3;#;4 5;;6+7;"

// TestSpecStays is P2: the spec is not changed and not kept, by right queries and wrong ones.
func TestSpecStays(t *testing.T) {
	n := planted(t, compiled(t, ten), sample)
	for _, ask := range asks() {
		want := findings(t, parsed(t, readSpec(t, ten), ask), n, sample, most)
		own := roomySpec(readSpec(t, ten))
		before := image(own)
		q := parsed(t, own, ask)
		for _, wrong := range []string{ask + " X", ask + " (X)", ask + " )", ""} {
			query.Parse(own, wrong)
		}
		if !reflect.DeepEqual(image(own), before) {
			t.Errorf("P2: Parse has changed the spec: %s", ask)
		}
		seq, _ := q.Match(n, []byte(sample))
		print := q.Print()
		spoilSpec(own)
		if got := slices.Collect(seq); !slices.EqualFunc(got, want, same) || len(want) == 0 {
			t.Errorf("P2: %s hangs on the spec: %s", ask, told(got))
		}
		if got := findings(t, q, n, sample, most); !slices.EqualFunc(got, want, same) || q.Print() != print {
			t.Errorf("P2: %s hangs on the spec: %s", ask, told(got))
		}
	}
}

// TestTextStays is P2: the text is not changed and not kept: a sequence goes over what it was when it was made.
func TestTextStays(t *testing.T) {
	e := compiled(t, ten)
	n := planted(t, e, sample)
	for _, ask := range append(asks(), `_ = "3" @x`, `(L ~ num = "7" @x)`, `_ - "3" @x`) {
		q := parsed(t, e.Spec(), ask)
		want := findings(t, q, n, sample, most)
		own := roomy([]byte(sample), 'x')
		seq, _ := q.Match(n, own)
		q.First(n, own)
		q.Count(n, own)
		for range seq {
		}
		if string(whole(own)[:len(sample)+3]) != sample+"xxx" {
			t.Errorf("P2: %s has changed the text: %q", ask, whole(own))
		}
		i := 0
		for m := range seq {
			if i++; !same(m, want[i-1]) {
				t.Errorf("P2: %s: finding %d: %v", ask, i, m)
			}
			spoil(own, '9') // while it is gone over, and ahead of the next time
		}
		if got := slices.Collect(seq); i != len(want) || !slices.EqualFunc(got, want, same) {
			t.Errorf("P2: %s hangs on the text: %s", ask, told(got))
		}
	}
}

// TestAnswersAreOwn is P2: what is told may be written over, and appended to; what is told behind that is the same.
func TestAnswersAreOwn(t *testing.T) {
	e := compiled(t, ten)
	n := planted(t, e, sample)
	for _, ask := range asks() {
		q := parsed(t, e.Spec(), ask)
		seq, _ := q.Match(n, []byte(sample))
		want := deepCopy(slices.Collect(seq))
		names := slices.Clone(q.Names())
		kept := slices.Collect(seq)
		i := 0
		for m := range seq {
			if !same(m, want[i]) {
				t.Fatalf("P2: %s: finding %d: %v", ask, i, m)
			}
			spoilMatch(m)
			for inner := range seq {
				spoilMatch(inner)
				break
			}
			i++
		}
		first, _, _ := q.First(n, []byte(sample))
		spoilMatch(first)
		told := q.Names()
		_ = append(told, "behind")
		spoil(told, "spoilt")
		if again, _, _ := q.First(n, []byte(sample)); !same(again, want[0]) || !slices.Equal(q.Names(), names) || !slices.EqualFunc(slices.Collect(seq), want, same) || !slices.EqualFunc(kept, want, same) {
			t.Errorf("P2: %s tells something else when its answers are written over", ask)
		}
	}
}

// TestNoListsShared is P2: no two lists of one answer share memory, their spare room too.
func TestNoListsShared(t *testing.T) {
	e := compiled(t, ten)
	n := planted(t, e, sample)
	for _, ask := range asks() {
		l := findings(t, parsed(t, e.Spec(), ask), n, sample, most)
		want := deepCopy(l)
		for i := range l {
			for k := range l[i].Caps {
				spoil(l[i].Caps[k].Path, -7)
				l[i].Caps[k].Path = want[i].Caps[k].Path
				if !slices.EqualFunc(l, want, same) {
					t.Fatalf("P2: %s: the path of the capture %d of the finding %d is shared", ask, k, i)
				}
			}
			spoil(l[i].Caps, api.Cap{})
			l[i].Caps = want[i].Caps
			if !slices.EqualFunc(l, want, same) {
				t.Fatalf("P2: %s: the captures of the finding %d are shared", ask, i)
			}
		}
	}
}

// TestQueryTextNotKept is P2: no piece of the query's text is kept by what it tells.
func TestQueryTextNotKept(t *testing.T) {
	text := `(_ w = "abc" @word)` + strings.Repeat(" ", 1000)
	q := parsed(t, api.Spec{Lex: []api.LexRule{{Name: "w"}}}, text)
	from := uintptr(unsafe.Pointer(unsafe.StringData(text)))
	for _, told := range []string{q.Names()[0], q.Print()} {
		if at := uintptr(unsafe.Pointer(unsafe.StringData(told))); at >= from && at < from+uintptr(len(text)) {
			t.Errorf("P2: %q lies in the text", told)
		}
	}
}

// TestNilAndEmpty is P2: nil and empty lists are the same.
func TestNilAndEmpty(t *testing.T) {
	st := tree.New()
	n, _ := st.Make(api.NRoot, 0, st.Leaf(api.Leaf{Kind: api.KEnd}))
	for _, s := range []api.Spec{{}, {Lex: []api.LexRule{}, Names: []string{}, Productions: []api.Production{}}} {
		for _, text := range [][]byte{nil, {}} {
			q := parsed(t, s, "_ @x (_ $ @y)")
			seq, e := q.Match(n, text)
			if e != api.OK || told(slices.Collect(seq)) != "0 x [] 0-0, 1 y [0] 0-0, 0 x [0] 0-0" {
				t.Errorf("P2: %v", e)
			}
			if k, e := q.Count(n, text); k != 3 || e != api.OK {
				t.Errorf("P2: %d %v", k, e)
			}
		}
	}
}
