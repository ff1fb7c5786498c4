package dfa

import (
	"strings"
	"testing"

	"graft/api"
	"graft/expr"
)

// TestForksAreFew: however deep repetitions stand in one another, a net has not many more forks than positions.
func TestForksAreFew(t *testing.T) {
	for _, text := range []string{
		"(a" + strings.Repeat("?", 50) + "){1000}b",
		"(a" + strings.Repeat("*", 50) + "){1000}b",
		"(a" + strings.Repeat("+", 50) + "){1000}b",
		"(a" + strings.Repeat("{1}", 50) + "){1000}b",
		"(a" + strings.Repeat("{1}?+*{1}", 10) + "){1000}b",
		"(" + strings.Repeat("(", 25) + "a" + strings.Repeat("|)*", 25) + "){1000}b",
		"(" + strings.Repeat("(", 25) + "a" + strings.Repeat("(){9})?", 25) + "){1000}b",
		"(" + strings.Repeat("(", 10) + "a" + strings.Repeat("{2}?+)", 10) + "){3}b",
	} {
		e, f := expr.Parse(text)
		if f.Err != api.OK {
			t.Fatalf("%.20s: %v", text, f)
		}
		n := newNet(e)
		positions, _ := expr.Positions(e)
		if len(n.takers) != positions+1 || len(n.forks) > 3*positions {
			t.Errorf("%.20s: %d takers, %d forks", text, len(n.takers), len(n.forks))
		}
	}
}
