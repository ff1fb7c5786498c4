package desk_test

import (
	"testing"

	"graft/api"
)

// TestReadme does the acts that README.md shows.
func TestReadme(t *testing.T) {
	d := tenDesk(t)
	does(t, d, []api.Act{
		{Kind: api.AOpen, Doc: "a", Ins: []byte("1;")},
		{Kind: api.AEdit, Doc: "a", At: 1, Ins: []byte(" 2")},
		{Kind: api.AText, Session: 1, Doc: "a"},
		{Kind: api.AErrors, Doc: "a"},
		{Kind: api.AUndo, Doc: "a"},
		{Kind: api.ARedo, Doc: "a"},
		{Kind: api.ABatch, Doc: "a", N: 2},
		{Kind: api.AEdit, Doc: "a", Del: 2},
		{Kind: api.AEdit, Doc: "a", At: 2, Ins: []byte("3;")},
		{Kind: api.AText, Doc: "b"},
	}, "0", "1", "0 1;", "1 0.3", "0", "1", "2", "2", "2", "doc")
	does(t, d, list(asks(api.AText, 0, "a")), "2 2;3;")
	wantDocs(t, d, "a")
	d.Close()
	does(t, d, list(asks(api.AText, 0, "a")), "shut")
}
