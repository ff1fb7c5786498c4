package shell_test

import (
	"slices"
	"sync"
	"testing"

	"graft/api"
	"graft/shell"
)

// TestTogether is P3 and P2006: several runs at one time, of one script and of others; each is answered what it would be alone.
func TestTogether(t *testing.T) {
	d := newDrawer(2006)
	var scripts, want []string
	for range 6 {
		text, _ := d.script(60)
		scripts, want = append(scripts, text), append(want, shell.Run(text))
	}
	line := `edit d 0 1 2 "x y\n" # z`
	var all sync.WaitGroup
	for i := range 12 {
		all.Add(1)
		go func() {
			defer all.Done()
			for n := range 3 {
				at := (i/2 + n) % len(scripts)
				if shell.Run(scripts[at]) != want[at] {
					t.Errorf("P3: another answer to script %d", at)
				}
				if words, err := shell.Words(line); err != api.OK || !slices.Equal(words, list("edit", "d", "0", "1", "2", "x y\n")) {
					t.Errorf("P3: %q %v", words, err)
				}
				if got := shell.Quote([]byte(line)); got != quoteOf(line) {
					t.Errorf("P3: %s", got)
				}
			}
		}()
	}
	all.Wait()
}
