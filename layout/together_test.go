package layout_test

import (
	"sync"
	"testing"

	"graft/layout"
)

// TestTogether is P2 and P3: one layout is asked by several at one time; each is told what he would be alone.
func TestTogether(t *testing.T) {
	e := compiled(t, calls)
	l := laid(t, e.Spec(), callRules(e.Spec()))
	v, broken := opened(t, e, longCalls), opened(t, e, longCalls+"(")
	want, refused := told(t, l, v), told(t, l, broken)
	var all sync.WaitGroup
	for range 8 {
		all.Add(1)
		go func() {
			defer all.Done()
			for range 20 {
				got := told(t, l, v)
				if !same(got, want) || !same(told(t, l, broken), refused) || !layout.Same(v.root, v.root, []byte(v.text), []byte(v.text)) {
					t.Error("P3: told otherwise")
				}
				spoil(got.edits, edit(-1, -1, "spoilt"))
			}
		}()
	}
	all.Wait()
}
