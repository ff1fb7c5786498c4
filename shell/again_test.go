package shell_test

import (
	"testing"

	"graft/shell"
)

// TestNothingLeft is P2006: one script behind another, and the same one again; nothing of one run is there in the next.
func TestNothingLeft(t *testing.T) {
	first := script(setting()...)
	want := shell.Run(first)
	for _, u := range usages() {
		words := worthy(u)
		alone := shell.Run(joined(words...))
		things := false
		for _, x := range words {
			things = things || isThing(x)
		}
		if things && alone != "none\n" {
			t.Errorf("P2006: %s: %q", u, alone)
		}
		if got := shell.Run(first); got != want {
			t.Errorf("P2006: behind %s: %q, not %q", u, got, want)
		}
		if got := shell.Run(joined(words...)); got != alone {
			t.Errorf("P2006: %s again: %q, not %q", u, got, alone)
		}
	}
}

// TestFullLeft is P2006 behind a run that was full, and one that was too long.
func TestFullLeft(t *testing.T) {
	t.Parallel()
	lines, _ := filling(t, 1<<26)
	shell.Run(script(append(lines, "text d 0")...))
	shell.Run(script(make([]string, 600)...))
	if got := shell.Run("bytes b x\ntext d 0\n"); got != "ok 1\nnone\n" {
		t.Errorf("P2006: %q", got)
	}
}
