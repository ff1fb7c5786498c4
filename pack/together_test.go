package pack_test

import (
	"bytes"
	"sync"
	"testing"

	"graft/api"
	"graft/pack"
)

// TestTogether is P3: specs and documents are written and read by several at one time, out of the same memory; each is told what he would be alone.
func TestTogether(t *testing.T) {
	s := read(t, ten)
	head := packed(t, s)
	e := compiled(t, s)
	d := opened(t, e, "1;2 3;")
	edit(t, d, 0, 1, 1, "+1;")
	b := packedDoc(t, e, d)
	list := shots(t, d)
	var all sync.WaitGroup
	for range 8 {
		all.Add(1)
		go func() {
			defer all.Done()
			for range 20 {
				if x, err := pack.Spec(s); err != api.OK || !bytes.Equal(x, head) {
					t.Error("P3: another pack of the spec")
				}
				if x, at, err := pack.ReadSpec(head); at != 0 || err != api.OK || !sameSpec(x, s) {
					t.Error("P3: another spec")
				}
				if _, at, err := pack.ReadSpec(head[:30]); at != 30 || err != api.ErrCut {
					t.Error("P3: another fault")
				}
				if x, err := pack.Doc(e, d); err != api.OK || !bytes.Equal(x, b) {
					t.Error("P3: another pack of the document")
				}
				if _, x, at, err := pack.ReadDoc(b); at != 0 || err != api.OK || !sameShots(shots(t, x), list) {
					t.Error("P3: another document")
				}
			}
		}()
	}
	all.Wait()
}

// TestEditedTogether is P1803 and P1805 of a document that others edit meanwhile: what is written is what it was at some time.
func TestEditedTogether(t *testing.T) {
	e := compiled(t, read(t, ten))
	d := opened(t, e, "1;")
	var all sync.WaitGroup
	packs := make([][][]byte, 4)
	for i := range packs {
		all.Add(2)
		go func() {
			defer all.Done()
			for n := range 40 {
				if _, err := d.Edit(n/2, n%2, 0, []byte("2;")); err != api.OK {
					t.Error(err)
				}
			}
		}()
		go func() {
			defer all.Done()
			for range 20 {
				b, err := pack.Doc(e, d)
				if err != api.OK {
					t.Error(err)
				}
				packs[i] = append(packs[i], b)
			}
		}()
	}
	all.Wait()
	list := shots(t, d)
	for _, row := range packs {
		before := 0
		for _, b := range row {
			_, x, at, err := pack.ReadDoc(b)
			if at != 0 || err != api.OK || x.Versions() < before || !sameShots(shots(t, x), list[:x.Versions()]) {
				t.Fatalf("P1805: %d %v", at, err)
			}
			before = x.Versions()
		}
	}
}
