package shell_test

import (
	"testing"
)

// TestNames is P2004: a name is any word, quoted or bare; one name may be that of things of each kind.
func TestNames(t *testing.T) {
	names := []string{"a", "", " ", "a b", "\x00", "\n", "\t", "\"", "\\", "#", "#a", "a#", "\xff", "\xff\xfe", "é", "\x7f", "0", "-1", "lang", "ok", "none", "L", "T1", "A", "\ufffd", "\xef\xbf", "\r\n"}
	var pairs []string
	for i, n := range names { // each is a name by itself
		text := string(rune('1'+i%9)) + ";"
		pairs = append(pairs, lang(quoteOf(n), ten), "ok", "open "+quoteOf(n)+" "+quoteOf(n)+" "+text, "ok", "query "+quoteOf(n)+" "+quoteOf(n)+" semi", "ok", "layout "+quoteOf(n)+" "+quoteOf(n)+` " " " " "" `+linedGaps, "ok", "pack "+quoteOf(n)+" "+quoteOf(n), "ok 128")
	}
	for i, n := range names {
		text := `ok "` + string(rune('1'+i%9)) + `;"`
		pairs = append(pairs, "text "+quoteOf(n)+" 0", text, "ask "+quoteOf(n)+" "+quoteOf(n)+" 0", "ok 0", "print "+quoteOf(n)+" "+quoteOf(n)+" 0", text)
		pairs = append(pairs, "unpack "+quoteOf(n)+" "+quoteOf(n), "ok 1", "text "+quoteOf(n)+" 0", text, "ask "+quoteOf(n)+" "+quoteOf(n)+" 0", "arg", "tokens "+quoteOf(n)+" 1", "ok 0.1.2")
	}
	plays(t, pairs...)
	plays(t, `bytes abc x`, "ok 1", `bytes "a\x62c" xy`, "ok 2", `unpack d "abc"`, "pack 0", `unpack d "\x61\x62\x63"`, "pack 0", "unpack d abC", "none", "unpack d ab", "none", "unpack d abcd", "none", `unpack d "abc "`, "none",
		"bytes \xc3\xa9 x", "ok 1", `unpack d "\xc3\xa9"`, "pack 0", `unpack d "\xC3\xa9"`, "pack 0", `unpack d é`, "pack 0", `unpack d "\xe9"`, "none")
}

// TestPlaces is P2005: a thing takes the place of one of its kind and name, and of no other; what stands on the old one goes on.
func TestPlaces(t *testing.T) {
	plays(t,
		lang("x", ten), "ok", "open x x 1;", "ok", "edit x 0 0 0 2", "ok 1", "query x x num", "ok", `layout x x " " " " "" `+linedGaps, "ok", "bytes x 12", "ok 2",
		"text x 1", `ok "21;"`, "ask x x 1", "ok 0", "print x x 1", `ok "21;"`, "unpack y x", "pack 0", "spec x", answers(t, lang("g", ten), "spec g")[1],
		"open x x 5;6;", "ok", "text x 1", "version", "text x 0", `ok "5;6;"`, "ask x x 0", "ok 0 0",
		"query x x semi", "ok", "query x x (", `query 1 ""`, "ask x x 0", "ok 0 0", "query x x plus", "ok", "ask x x 0", "ok",
		`layout x x " " " " "" `+"nnn,n,nbn,nnn,nnnn,nn,nn", "ok", "print x x 0", `ok "5 ;6 ;"`, `layout x x " " " " "" nnn`, `layout -1 ""`, `layout x x " " " " "" z`, "layout", "print x x 0", `ok "5 ;6 ;"`,
		"pack x x", "ok 130", "unpack y x", "ok 1", "text y 0", `ok "5;6;"`, "bytes x z", "ok 1", "unpack y x", "pack 0", "text y 0", `ok "5;6;"`, "edit y 0 0 0 7", "ok 1", "pack x y", "ok 145", "unpack x x", "ok 2", "text x 1", `ok "75;6;"`, "ask x x 0", "arg",
		lang("x", "start A; A = ;"), "ok", "first x", "ok -", "text x 1", `ok "75;6;"`, "open x x \"\"", "ok", "leaves x 0", "ok -2.0.0.1", "ask x x 0", "arg", "print x x 0", "arg", "lang x y", `spec 1 ""`, "first x", "ok -",
		"open y none x", "none", "text y 1", `ok "75;6;"`, "pack x none", "none", "unpack x x", "ok 2",
	)
}
