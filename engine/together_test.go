package engine_test

import (
	"math/rand"
	"slices"
	"sync"
	"testing"

	"graft/api"
	"graft/engine"
)

// TestApart is P1311: documents of one engine, and engines, edited in turns, each tell what they would alone.
func TestApart(t *testing.T) {
	r := rand.New(rand.NewSource(1311))
	var docs []*watch
	var writers []*writer
	for _, text := range languages()[:5] {
		s := read(t, text)
		for range 2 { // engines of one spec
			e := compiled(t, text)
			for range 2 { // documents of one engine
				w := newWriter(r, s)
				docs, writers = append(docs, watched(t, e, newModel(s), w.text(10))), append(writers, w)
			}
		}
	}
	for range 160 {
		i := r.Intn(len(docs))
		d := docs[i]
		from := r.Intn(len(d.shots))
		d.edit(t, from, writers[i].edit(d.shots[from].text, 10))
		for _, other := range docs {
			other.stays(t)
		}
	}
}

// TestSameTwice is P3: two documents that are opened and edited alike tell the same, Ids left out, whatever is done in between.
func TestSameTwice(t *testing.T) {
	r := rand.New(rand.NewSource(1303))
	e := compiled(t, calls)
	w := newWriter(r, read(t, calls))
	a, b := watched(t, e, nil, "f(1);"), watched(t, e, nil, "f(1);")
	for range 40 {
		from := r.Intn(len(a.shots))
		change := w.edit(a.shots[from].text, 10)
		a.edit(t, from, change)
		opened(t, e, w.text(10))
		b.refused(t, from, -1, 0, nil, api.ErrRange)
		b.edit(t, from, change)
		last := len(a.shots) - 1
		if !a.shots[last].alike(b.shots[last]) || stay(a.shots[from].rows, a.shots[last].rows) != stay(b.shots[from].rows, b.shots[last].rows) {
			t.Fatalf("P3: %v and %v", a.shots[last], b.shots[last])
		}
	}
}

// done is an Edit that was answered.
type done struct {
	version int
	origin  api.Origin
}

// busy edits a document, any version that is there, and tells what was answered OK.
func busy(d *engine.Doc, w *writer, count int) (out []done) {
	for range count {
		from := w.r.Intn(d.Versions())
		text, _ := d.Text(from)
		change := w.edit(string(text), 10)
		if n, e := d.Edit(from, change.At, change.Del, change.Ins); e == api.OK {
			out = append(out, done{n, api.Origin{Parent: from, Edit: change}})
		}
		d.Edit(from, len(text)+1, 0, nil)
	}
	return out
}

// TestTogether is P1311: one document is asked and edited by several at one time. Behind that each version is what its Edit made it, as if it had been alone.
func TestTogether(t *testing.T) {
	for i, text := range []string{ten, calls, twins} {
		s := read(t, text)
		e := compiled(t, text)
		first := newWriter(rand.New(rand.NewSource(int64(i))), s).text(10)
		d := opened(t, e, first)
		answers := make([][]done, 6)
		var all sync.WaitGroup
		for k := range answers {
			all.Go(func() { answers[k] = busy(d, newWriter(rand.New(rand.NewSource(int64(100*i+k))), s), 25) })
			all.Go(func() { listen(t, d, k) })
		}
		all.Wait()
		wantAll(t, watching(e, newModel(s), d), first, slices.Concat(answers...))
	}
}

// listen asks versions again and again: what one has told it tells for ever.
func listen(t *testing.T, d *engine.Doc, seed int) {
	r := rand.New(rand.NewSource(int64(seed)))
	var shots []shot
	for range 60 {
		for len(shots) < d.Versions() {
			s, e := asked(d, len(shots))
			if e != ([7]api.Errno{}) {
				t.Errorf("P1311: version %d: %v", len(shots), e)
			}
			shots = append(shots, s)
		}
		i := r.Intn(len(shots))
		if s, _ := asked(d, i); !s.same(shots[i]) {
			t.Errorf("P1311: version %d tells otherwise", i)
		}
	}
}

// wantAll follows a document's versions, one behind the other: each must be one that was answered.
func wantAll(t *testing.T, w *watch, first string, answers []done) {
	t.Helper()
	slices.SortFunc(answers, func(a, b done) int { return a.version - b.version })
	w.follow(t, first, api.Origin{Parent: -1, Edit: api.Edit{Ins: []byte(first)}})
	for i, x := range answers {
		if x.version != i+1 {
			t.Fatalf("P1311: the version %d was answered where %d must be", x.version, i+1)
		}
		w.follow(t, edited(w.shots[x.origin.Parent].text, x.origin.Edit), x.origin)
		w.wantSame(t, x.origin.Parent, x.origin.Edit)
		w.note(t)
	}
	w.stays(t)
}

// TestFullTogether: several fill a document at one time; each number is answered once, and there are no more than may be.
func TestFullTogether(t *testing.T) {
	d := opened(t, compiled(t, ten), "1;")
	counts := make([][]int, 8)
	var all sync.WaitGroup
	for k := range counts {
		all.Go(func() {
			for range api.MaxVersions / 4 {
				if n, e := d.Edit(0, 0, 1, []byte{byte('0' + k)}); e == api.OK {
					counts[k] = append(counts[k], n)
				} else if e != api.ErrFull || n != 0 {
					t.Errorf("P1303: %d %v", n, e)
				}
			}
		})
	}
	all.Wait()
	seen := 0
	for k, l := range counts {
		for _, n := range l {
			if b, e := d.Text(n); e != api.OK || string(b) != string(rune('0'+k))+";" {
				t.Errorf("P1311: %d: %q %v", n, b, e)
			}
		}
		if !slices.IsSorted(l) {
			t.Errorf("P1303: %v", l)
		}
		seen += len(l)
	}
	if seen != api.MaxVersions-1 || d.Versions() != api.MaxVersions {
		t.Errorf("P1303: %d answers, %d versions", seen, d.Versions())
	}
}

// TestManyTogether: one engine is asked, and its documents opened and edited, by several at one time.
func TestManyTogether(t *testing.T) {
	for _, text := range []string{ten, calls} {
		s := read(t, text)
		e := compiled(t, text)
		run := func(seed int) (out []shot) {
			w := newWriter(rand.New(rand.NewSource(int64(seed))), s)
			d, _ := e.Open([]byte(w.text(20)))
			busy(d, w, 20)
			for i := range d.Versions() {
				x, _ := asked(d, i)
				out = append(out, x)
			}
			return out
		}
		got := make([][]shot, 8)
		var all sync.WaitGroup
		for k := range got {
			all.Go(func() {
				got[k] = run(k)
				if !sameSpec(e.Spec(), s) {
					t.Error("P1301: another spec")
				}
				if other, f := engine.Compile(s); other == nil || f != (api.Fault{}) {
					t.Errorf("P1301: %+v", f)
				}
			})
		}
		all.Wait()
		for k := range got {
			if want := run(k); !slices.EqualFunc(got[k], want, shot.alike) {
				t.Errorf("P1311: document %d is another one alone", k)
			}
		}
	}
}
