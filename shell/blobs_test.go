package shell_test

import (
	"fmt"
	"strings"
	"testing"

	"graft/api"
	"graft/engine"
	"graft/pack"
	"graft/spec"
)

// packed is the pack of a document of a spec's text, with edits.
func packed(t testing.TB, text, begin string, edits ...api.Origin) []byte {
	t.Helper()
	s, f := spec.Parse(text)
	if f != (api.Fault{}) {
		t.Fatal(f)
	}
	e, f := engine.Compile(s)
	if f != (api.Fault{}) {
		t.Fatal(f)
	}
	d, err := e.Open([]byte(begin))
	for _, o := range edits {
		if err == api.OK {
			_, err = d.Edit(o.Parent, o.Edit.At, o.Edit.Del, o.Edit.Ins)
		}
	}
	if err != api.OK {
		t.Fatal(err)
	}
	b, err := pack.Doc(e, d)
	if err != api.OK {
		t.Fatal(err)
	}
	return b
}

// TestBlobs is P2005 of pack, unpack and bytes: round, and what is told.
func TestBlobs(t *testing.T) {
	plays(t,
		`lang g "start S; S = ;"`, "ok", `open d g ""`, "ok", "pack b d", "ok 43", // the chapter of packs, example 4
		"unpack e b", "ok 1", "text e 0", `ok ""`, "from e 0", `ok -1 0 0 ""`, "tree e 0", "ok 4.0.0.0.2 2.0.0.0.0 1.-2.0.0.0", "pack c e", "ok 43",
		"edit e 0 0 0 x", "ok 1", "text e 1", `ok "x"`, "text d 1", "version", "pack c e", "ok 58", "unpack f c", "ok 2", "text f 1", `ok "x"`, "unpack f b", "ok 1", "text f 1", "version", // it goes on by itself
	)
	lines := list(lang("g", ten), "open d g 1;", `edit d 0 2 0 "2 3;"`, `edit d 0 0 1 ""`, `edit d 1 1 1 "\x00\xff"`)
	lines = append(lines, "pack b d", "unpack e b", "pack b e", "unpack f b")
	for v := range 4 {
		for _, what := range []string{"text", "from", "leaves", "tree", "errors"} {
			lines = append(lines, fmt.Sprintf("%s d %d", what, v), fmt.Sprintf("%s e %d", what, v), fmt.Sprintf("%s f %d", what, v))
		}
		lines = append(lines, fmt.Sprintf("same d %d e %d", v, v))
	}
	wantRun(t, script(lines...))
}

// TestBytes is P2005 of bytes: any ones, and how many.
func TestBytes(t *testing.T) {
	all := ""
	for i := range 256 {
		all += string([]byte{byte(i)})
	}
	plays(t, `bytes b ""`, "ok 0", "unpack d b", "cut 0", "bytes b x", "ok 1", "unpack d b", "pack 0", "bytes b "+quoteOf(all), "ok 256", "bytes b é", "ok 2", "bytes b \xff\xfe\xfd", "ok 3", `bytes b "é\n"`, "ok 3", "bytes b "+strings.Repeat("x", 60000), "ok 60000", "unpack d b", "pack 0", "bytes b graftdoc", "ok 8", "unpack d b", "cut 8", "unpack d b", "cut 8")
}

// TestUnpackRefused is P2005 of unpack: the error's word and the place; and nothing is made.
func TestUnpackRefused(t *testing.T) {
	b := packed(t, ten, "1;", api.Origin{Edit: api.Edit{At: 2, Ins: []byte("2;")}}, api.Origin{Parent: 1, Edit: api.Edit{Del: 1}})
	turned := func(at int) []byte {
		c := append([]byte(nil), b...)
		c[at] ^= 1
		return c
	}
	keep := list(lang("g", ten), "ok", "open d g 7;", "ok", "bytes b "+quoteOf(string(b)), fmt.Sprintf("ok %d", len(b)), "unpack e b", "ok 3", "text e 2", `ok ";2;"`)
	for _, c := range []struct {
		b    []byte
		want string
	}{
		{nil, "cut 0"}, {b[:3], "cut 3"}, {[]byte("graftspe.."), "pack 5"}, {b[:len(b)-1], fmt.Sprintf("cut %d", len(b)-1)}, {append(append([]byte(nil), b...), 0), fmt.Sprintf("pack %d", len(b))}, {turned(len(b) - 1), fmt.Sprintf("sum %d", len(b)-4)}, {turned(0), "pack 0"}, {b[:12], "cut 12"}, {b[:20], "cut 20"}, {b[:len(b)/2], fmt.Sprintf("cut %d", len(b)/2)},
	} {
		plays(t, append(keep, "bytes c "+quoteOf(string(c.b)), fmt.Sprintf("ok %d", len(c.b)), "unpack d c", c.want, "text d 0", `ok "7;"`, "unpack x c", c.want, "text x 0", "none", "unpack e c", c.want, "text e 2", `ok ";2;"`)...)
	}
	for at := range b { // each byte turned: an error, and a place
		_, _, place, err := pack.ReadDoc(turned(at))
		if got := answers(t, "bytes b "+quoteOf(string(turned(at))), "unpack d b", "text d 0"); got[1] != fmt.Sprint(err.Error(), " ", place) || err == api.OK || got[2] != "none" {
			t.Errorf("P2005: byte %d turned: %q, not %v %d", at, got, err, place)
		}
	}
}
