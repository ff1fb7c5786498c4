package paint_test

import (
	"slices"
	"sync"
	"testing"

	"graft/api"
)

// TestTogether is P2 and P3: one painter is asked by several at one time; each is told what he would be alone.
func TestTogether(t *testing.T) {
	e := compiled(t, calls)
	d, _ := e.Open([]byte(longCalls))
	d.Edit(0, 5, 0, []byte("2;"))
	p := painter(t, e.Spec(), full())
	was, now := asked(t, d, 0), asked(t, d, 1)
	want, next := told(t, p, was), told(t, p, now)
	var all sync.WaitGroup
	for range 8 {
		all.Add(1)
		go func() {
			defer all.Done()
			for range 20 {
				paints, _ := p.Paints(was.root, was.text)
				folds, _ := p.Folds(was.root, was.text)
				entries, _ := p.Outline(was.root, was.text)
				if !same(answers{paints, folds, entries}, want) {
					t.Error("P3: told otherwise")
				}
				renewed, err := p.Renew(paints, was.root, now.root, was.text, now.text)
				if err != api.OK || !slices.Equal(renewed, next.paints) {
					t.Error("P1605: told otherwise")
				}
				spoil(paints, api.Paint{})
				spoil(entries, api.Entry{})
			}
		}()
	}
	all.Wait()
}
