package shell_test

import (
	"strings"
	"testing"
)

// TestQueries is P2005 of query and ask, by the examples of the chapter of queries.
func TestQueries(t *testing.T) {
	plays(t,
		lang("g", ten), "ok", `open d g "1 +2;#;"`, "ok",
		`query q g "num @x"`, "ok", "ask q d 0", `ok 0 "x" 0.1 0 "x" 3.4`,
		`query q g "(E (E) . plus . (T num = \"2\" @n)) @e"`, "ok", "ask q d 0", `ok 0 "e" 0.4 "n" 3.4`,
		`query q g "(E (E) . plus . (T num = \"3\" @n)) @e"`, "ok", "ask q d 0", "ok",
		`query q g "(L ~ num @x)"`, "ok", "ask q d 0", `ok 0 "x" 0.1 0 "x" 3.4 0 "x" 0.1 0 "x" 3.4`,
		`query q g "(L . (L) (S) .)"`, "ok", "ask q d 0", "ok 0 0",
		`query q g "(! !)"`, "ok", "ask q d 0", "ok 0",
		`query q g "(L .)"`, "ok", "ask q d 0", "ok 0",
		`query q g "(_ ! @b)"`, "ok", "ask q d 0", `ok 0 "b" 5.6`,
		`query q g "$ @e"`, "ok", "ask q d 0", `ok 0 "e" 7.7`,
		`query q g "plus @p num @first_1 (! !)"`, "ok", "ask q d 0", `ok 1 "first_1" 0.1 0 "p" 2.3 1 "first_1" 3.4 2`,
		`query q g "(E num @a)  (T num @b) @a semi"`, "ok", "ask q d 0", `ok 1 "a" 0.1 "b" 0.1 1 "a" 3.4 "b" 3.4 2 2`,
		"ask q d 1", "version", "ask q d -1", "version",
		`edit d 0 4 3 ""`, "ok 1", "ask q d 1", "ok", "edit d 1 4 0 ;", "ok 2", "ask q d 2", `ok 1 "a" 0.1 "b" 0.1 1 "a" 3.4 "b" 3.4 2`, // each version has its own
	)
	long := strings.Repeat(" ", 4094)
	for _, c := range []struct{ text, want string }{
		{"(X)", `queryname 1 ""`}, {"ws", `queryname 0 ""`}, {"(L", `query 2 ""`}, {"num @", `query 5 ""`}, {"(E num @a num @a)", `capture 14 ""`}, {"", `query 0 ""`}, {"num \xff", `query 4 ""`}, {"num = \"\\q\"", `query 7 ""`},
		{strings.Repeat("(_ ", 65) + strings.Repeat(")", 65), `nest 192 ""`}, {strings.Repeat("(_ ", 64) + strings.Repeat(")", 64), "ok"}, {long + "_", "ok"}, {long + "_ ", "ok"}, {long + "_  ", `long 0 ""`}, {long + ")))", `long 0 ""`},
	} {
		plays(t, lang("g", ten), "ok", "query q g "+quoteOf(c.text), c.want)
		if c.want != "ok" { // it makes nothing, and takes no place
			plays(t, lang("g", ten), "ok", "open d g 1;", "ok", "query q g "+quoteOf(c.text), c.want, "ask q d 0", "none", "query q g semi", "ok", "query q g "+quoteOf(c.text), c.want, "ask q d 0", "ok 0")
		}
	}
}

// TestFindings is P2005 of ask with 4096 findings, and one more.
func TestFindings(t *testing.T) {
	most, more := strings.Repeat("1;", 4096), strings.Repeat("1;", 4097)
	all := strings.Repeat(" 0", 4096)
	plays(t,
		lang("g", ten), "ok", "open d g "+most, "ok", "open e g "+more, "ok",
		"query q g num", "ok", "ask q d 0", "ok"+all, "ask q e 0", "tries",
		`query q g "num semi"`, "ok", "ask q d 0", "tries",
		`query q g "num = \"2\""`, "ok", "ask q e 0", "ok",
		`query q g "_"`, "ok", "ask q e 0", "tries",
		"query q g plus", "ok", "ask q e 0", "ok",
		`query q g "(_ ~ num)"`, "ok", "ask q d 0", "tries",
		"edit d 0 8192 0 1;", "ok 1", "query q g num", "ok", "ask q d 1", "tries", "ask q d 0", "ok"+all, "ask q d 2", "version",
		"edit e 0 0 2 +;", "ok 1", "ask q e 1", "ok"+all,
	)
}

// TestOtherLanguage is P2005: a query and a layout are of one language, which one lang command made; a document of any other is arg, behind version.
func TestOtherLanguage(t *testing.T) {
	gaps := `" " " " "" ` + linedGaps
	plays(t,
		lang("g", ten), "ok", lang("h", ten), "ok", "open d g 1;", "ok", "open e h 1;", "ok",
		"query q g num", "ok", "query r h num", "ok", "layout p g "+gaps, "ok", "layout s h "+gaps, "ok",
		"ask q d 0", "ok 0", "ask r e 0", "ok 0", "ask q e 0", "arg", "ask r d 0", "arg", "ask q e 1", "version", "ask q e -1", "version", "ask q d 1", "version",
		"print p d 0", `ok "1;"`, "print s e 0", `ok "1;"`, "print p e 0", "arg", "print s d 0", "arg", "print p e 1", "version", "print s d -1", "version",
		// The name is given to another language: what is there stays of the old one.
		lang("g", ten), "ok", "ask q d 0", "ok 0", "print p d 0", `ok "1;"`,
		"open f g 1;", "ok", "ask q f 0", "arg", "print p f 0", "arg", "query t g num", "ok", "ask t f 0", "ok 0", "ask t d 0", "arg", "layout t g "+gaps, "ok", "print t f 0", `ok "1;"`, "print t d 0", "arg",
		"open d g 1;", "ok", "ask q d 0", "arg", "ask t d 0", "ok 0",
		// What unpack made is of no language of those.
		"pack b f", "ok 128", "unpack u b", "ok 1", "ask t u 0", "arg", "print t u 0", "arg", "ask t u 1", "version", "print t u 1", "version", "unpack v b", "ok 1", "ask t v 0", "arg", "same u 0 v 0", "ok yes", "same u 0 f 0", "ok yes", "ask t f 0", "ok 0",
		"unpack f b", "ok 1", "ask t f 0", "arg",
		// A broken tree of another language is arg too, and of this one broken.
		"open x h 1", "ok", "print p x 0", "arg", "print s x 0", "broken",
	)
}

// TestOldLanguage: a language goes on behind its name, with its documents, when that was given to another one; a refused lang takes nothing away.
func TestOldLanguage(t *testing.T) {
	plays(t,
		lang("g", ten), "ok", "open d g 1;", "ok", "query q g num", "ok", `lang g "start A; A = ;"`, "ok", "tokens g 1", "ok -1.1.1", "first g", "ok -",
		"edit d 0 0 0 2+", "ok 1", "tree d 1", "ok 4.0.0.0.2 2.0.0.0.2 2.1.0.0.0 2.2.0.0.2 2.4.0.0.3 2.5.0.0.1 2.6.0.0.1 1.0.0.1.0 1.1.0.1.0 2.6.0.0.1 1.0.0.1.0 1.2.0.1.0 1.-2.0.0.0", "ask q d 1", "ok 0 0",
		"open e g 1", "ok", "errors e 0", "ok 0.1", "query q g num", `queryname 0 ""`, "ask q d 0", "ok 0",
		"lang g x", `spec 1 ""`, "first g", "ok -", "open e g 1", "ok",
	)
}
