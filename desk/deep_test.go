package desk_test

import (
	"slices"
	"strings"
	"testing"

	"graft/api"
)

// TestDeep is P1, P10 to P14 of long texts, right and wrong, flat and deep, at a desk: edits, batches and what is told of them.
func TestDeep(t *testing.T) {
	t.Parallel()
	const n = 1 << 16
	nest := languages()[2].spec
	for _, x := range []struct{ what, spec, text, put string }{
		{"deep", nest, strings.Repeat("l", n) + "x" + strings.Repeat("r", n), "lr"},
		{"deep, never closed", nest, strings.Repeat("l", 2*n), "x"},
		{"flat", ten, strings.Repeat("1+2;", n/2), "3;"},
		{"many errors", ten, strings.Repeat(";1 2;", n/4), "+"},
		{"one leaf", ten, strings.Repeat("1", 2*n), ";"},
		{"trivia alone", ten, strings.Repeat(" ", 2*n), "1;"},
		{"bad bytes alone", ten, strings.Repeat("\xff", n), "1;"},
	} {
		t.Run(x.what, func(t *testing.T) {
			t.Parallel()
			e := compiled(t, x.spec)
			d := laid(t, e, 2)
			half := len(x.text) / 2
			text := x.text[:half] + x.put + x.text[half:]
			got := d.Do(list(opens("d", x.text), edit(half, 0, x.put), ask(api.AText), ask(api.ATree), ask(api.AErrors), ask(api.AUndo),
				batch(3), edit(half, 1, ""), edit(half, 0, x.put), edit(half+len(x.put), 0, x.text[half:half+1]), ask(api.AText), ask(api.ATree), ask(api.AErrors), ask(api.AUndo), ask(api.AText), ask(api.ATree)))
			for i, r := range got {
				if r.Err != api.OK {
					t.Fatalf("P1902: act %d: %v", i, r.Err)
				}
			}
			for _, y := range []struct {
				at   int // of the text's reply; behind it the tree's, and the spans'
				text string
			}{{2, text}, {10, text}, {14, x.text}} {
				f, err := e.Open([]byte(y.text))
				if err != api.OK {
					t.Fatal(err)
				}
				rows, _ := f.Tree(0)
				if string(got[y.at].Text) != y.text || !slices.Equal(bare(got[y.at+1].Rows), bare(rows)) {
					t.Errorf("P13: the text or the tree of act %d", y.at)
				}
				spans, _ := f.Errors(0)
				if y.at < 14 && !slices.Equal(got[y.at+2].Spans, spans) {
					t.Errorf("P1902: the errors of act %d", y.at+2)
				}
			}
		})
	}
}
