package pack_test

import (
	"bytes"
	"math/rand"
	"strings"
	"testing"

	"graft/api"
	"graft/engine"
	"graft/pack"
)

// wantBack is P1805 of a spec that has a pack.
func wantBack(t testing.TB, what string, s api.Spec) {
	t.Helper()
	b := packed(t, s)
	if !bytes.Equal(b, specBytes(s)) {
		t.Fatalf("P1801: %s: % x, not % x", what, short(b), short(specBytes(s)))
	}
	got, at, err := pack.ReadSpec(b)
	if at != 0 || err != api.OK || !sameSpec(got, s) {
		t.Fatalf("P1805: %s: %d %v %+v, not %+v", what, at, err, got, s)
	}
	if again := packed(t, got); !bytes.Equal(again, b) {
		t.Fatalf("P1805: %s: another pack", what)
	}
}

// wantDocBack is P1805 of a document that has a pack; it answers what was read.
func wantDocBack(t testing.TB, what string, e *engine.Engine, d *engine.Doc) (*engine.Engine, *engine.Doc) {
	t.Helper()
	b := packedDoc(t, e, d)
	list := shots(t, d)
	var from []api.Origin
	for _, s := range list {
		from = append(from, s.from)
	}
	if want := docBytes(specBytes(e.Spec()), from...); !bytes.Equal(b, want) {
		t.Fatalf("P1803: %s: % x, not % x", what, short(b), short(want))
	}
	e2, d2, at, err := pack.ReadDoc(b)
	if e2 == nil || d2 == nil || at != 0 || err != api.OK {
		t.Fatalf("P1804: %s: %d %v", what, at, err)
	}
	if !sameSpec(e2.Spec(), e.Spec()) || d2.Versions() != d.Versions() || !sameShots(shots(t, d2), list) {
		t.Fatalf("P1805: %s: another document", what)
	}
	if !bytes.Equal(packedDoc(t, e2, d2), b) {
		t.Fatalf("P1805: %s: another pack", what)
	}
	return e2, d2
}

// TestLanguagesBack is P1805 of specs that are compiled, and of some that are not.
func TestLanguagesBack(t *testing.T) {
	for _, l := range languages() {
		s := read(t, l.spec)
		wantBack(t, l.spec, s)
		wantBack(t, l.spec, compiled(t, s).Spec())
	}
	for _, text := range []string{ambiguous, "start A; A = A;", "token e = /a*/; token f = /()/; start S; S = T T; T = U; U = ;", "skip w = / /; start S; S = w w w;"} {
		s, _ := specOf(packed(t, read(t, text)))
		wantBack(t, text, s)
	}
}

// TestDocsBack is P1805 and P1807 of many documents of many versions: what is read tells the same, and goes on like the one that was written.
func TestDocsBack(t *testing.T) {
	r := rand.New(rand.NewSource(1805))
	wrong := 0
	for i := range 120 {
		l := languages()[i%len(languages())]
		e, d := grownDoc(t, r, l, 1+r.Intn(25))
		e2, d2 := wantDocBack(t, l.spec, e, d)
		sideBySide(t, r, l, d, d2)
		wantDocBack(t, l.spec, e, d)
		wantDocBack(t, l.spec, e2, d2)
		for _, s := range shots(t, d) {
			wrong += min(1, len(s.errors))
		}
	}
	if wrong < 200 {
		t.Errorf("too few wrong texts: %d", wrong)
	}
}

// sideBySide is P1807: two documents that tell the same are edited by the same edits, and tell the same; neither sees the other.
func sideBySide(t *testing.T, r *rand.Rand, l language, d, d2 *engine.Doc) {
	t.Helper()
	for range 8 {
		before := shots(t, d2)
		o := change(t, r, l, d)
		if !sameShots(shots(t, d2), before) {
			t.Fatal("P1807: the one has changed with the other")
		}
		if n := edit(t, d2, o.Parent, o.Edit.At, o.Edit.Del, string(o.Edit.Ins)); n != d.Versions()-1 {
			t.Fatalf("P1807: the version %d, not %d", n, d.Versions()-1)
		}
		for _, x := range []struct{ version, at, del int }{{d.Versions(), 0, 0}, {0, 0, 1 << 20}, {-1, 0, 0}} {
			n, err := d.Edit(x.version, x.at, x.del, nil)
			if n2, err2 := d2.Edit(x.version, x.at, x.del, nil); n2 != n || err2 != err || err == api.OK {
				t.Fatalf("P1807: %d %v, not %d %v", n2, err2, n, err)
			}
		}
	}
	if !sameShots(shots(t, d), shots(t, d2)) {
		t.Fatal("P1807: edited alike, they tell otherwise")
	}
}

// TestSameNodes is P1807: in a document that was read nodes stay the same as in any other.
func TestSameNodes(t *testing.T) {
	e := compiled(t, read(t, ten))
	d := opened(t, e, "1;2;3;")
	edit(t, d, 0, 4, 1, "45")
	_, d2, _, err := pack.ReadDoc(packedDoc(t, e, d))
	if err != api.OK {
		t.Fatal(err)
	}
	for range 2 {
		for _, x := range []*engine.Doc{d, d2} {
			edit(t, x, x.Versions()-1, 0, 0, "7;")
			edit(t, x, x.Versions()-1, 3, 1, "")
		}
	}
	if a, b := repeats(t, d), repeats(t, d2); a < 10 || a != b {
		t.Errorf("P1807: %d nodes stand in more than one version, not %d", b, a)
	}
}

// repeats counts how often a node stands again that an older version has.
func repeats(t *testing.T, d *engine.Doc) (count int) {
	t.Helper()
	seen := map[int]int{}
	for v := range d.Versions() {
		rows, _ := d.Tree(v)
		for _, row := range rows {
			if was, is := seen[row.Id]; is && was < v {
				count++
			} else if !is {
				seen[row.Id] = v
			}
		}
	}
	return count
}

// TestReadMeanwhile is P1805: what a document was when it was written is read, whatever became of it since.
func TestReadMeanwhile(t *testing.T) {
	e := compiled(t, read(t, ten))
	d := opened(t, e, "1;")
	var packs [][]byte
	for i := range 20 {
		packs = append(packs, packedDoc(t, e, d))
		edit(t, d, i, i%2, i%2, strings.Repeat("+1", i%4))
	}
	list := shots(t, d)
	for i, b := range packs {
		if _, d2, _, err := pack.ReadDoc(b); err != api.OK || !sameShots(shots(t, d2), list[:i+1]) {
			t.Errorf("P1805: the document of %d versions: %v", i+1, err)
		}
	}
}
