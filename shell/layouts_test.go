package shell_test

import (
	"strings"
	"testing"
)

// TestLayouts is P2005 of layout and print, by the examples of the chapter of layouts.
func TestLayouts(t *testing.T) {
	plays(t,
		lang("g", lined), "ok", `layout p g " " "\n" "  " `+linedGaps, "ok",
		`open d g "1+2;3 ;"`, "ok", "print p d 0", `ok "1 + 2;\n3;"`,
		`edit d 0 0 7 "1 2;"`, "ok 1", "print p d 1", `ok "1 2;"`,
		`edit d 0 0 7 "1;#  ;"`, "ok 2", "print p d 2", `ok "1;\n#;"`,
		`edit d 0 0 7 1`, "ok 3", "print p d 3", "broken",
		`edit d 0 0 7 ""`, "ok 4", "print p d 4", `ok ""`,
		"print p d 5", "version", "print p d -1", "version", "print p d 0", `ok "1 + 2;\n3;"`,
		lang("h", "token num = /[0-9]+/; skip w = / /; start S; S = num num;"), "ok", `layout q h " " " " "" nnn`, "ok", `open e h "1 2"`, "ok", "print q e 0", `ok "1 2"`, `layout r h "" " " "" nnn`, "ok", "print r e 0", "glue",
		lang("k", `token dots = /\.\.\./; token dot = /\./; skip w = / /; start S; S = dot dot dot | dots;`), "ok", `layout q k " " " " "" nnnn,nn`, "ok", `open e k ". . ."`, "ok", "print q e 0", "glue", "layout q k \" \" \" \" \"\" nbnn,nn", "ok", "print q e 0", `ok ". .."`, // Blank keeps them apart
	)
	plays(t,
		lang("g", `token num = /[0-9]+/; token plus = /\+/; token semi = /;/; skip ws = /[ \n]+/; skip com = /#[^\n]*/; start L; L = L S | ; S = E semi | error semi; E = E plus T | T; T = num;`), "ok",
		`layout p g " " "\n" "  " `+linedGaps, "ok", `open d g "1 #x\n+2;"`, "ok", "print p d 0", `ok "1 #x\n+ 2;"`,
	)
}

// TestGaps is P2005 of GAPS: each letter, other ones, rows for fewer and more productions, letters for fewer and more symbols.
func TestGaps(t *testing.T) {
	plays(t,
		lang("g", `token o = /\(/; token c = /\)/; token x = /x/; token y = /y/; skip ws = /[ \n\t]+/; start S; S = o S c | x y;`), "ok",
		`open d g "(xy)"`, "ok",
		`layout p g " " "\n" "\t" nnnn,nnn`, "ok", "print p d 0", `ok "(xy)"`,
		`layout p g " " "\n" "\t" nnnn,nbn`, "ok", "print p d 0", `ok "(x y)"`,
		`layout p g " " "\n" "\t" nnnn,nln`, "ok", "print p d 0", `ok "(x\ny)"`,
		`layout p g " " "\n" "\t" nion,nnn`, "ok", "print p d 0", `ok "(\n\txy\n)"`,
		`layout p g " " "\n" "\t" nion,nbn`, "ok", "print p d 0", `ok "(\n\tx y\n)"`,
		`layout p g " " "\n" "\t" nnnn,nin`, "ok", "print p d 0", `ok "(x\n\ty)"`,
		`layout p g " " "\n" "\t" nnnn,non`, "ok", "print p d 0", `ok "(x\ny)"`,
		`layout p g "  " " " "" lbln,nbn`, "ok", "print p d 0", `ok "(  x  y )"`,
	)
	for _, c := range []struct{ gaps, want string }{
		{"nnnn,nnn", "ok"}, {"blio,nbl", "ok"}, {"nnnn,nnx", "layout"}, {"Nnnn,nnn", "layout"}, {"x", "layout"}, {`"nnnn, nnn"`, "layout"}, {`"nnnn nnn"`, "layout"}, {"nnnn;nnn", "layout"}, {"nnnn,nnn\xff", "layout"}, {"é", "layout"}, {"nnnn,nn1", "layout"}, {`"nnnn,nn\x00"`, "layout"}, {`"\n"`, "layout"}, {"z,", "layout"}, {",,,,z", "layout"}, {"\xef\xbf\xbd", "layout"}, {"nnnn,nn\u0142", "layout"},
		{"nnnn", `layout -1 ""`}, {"nnnn,nnn,n", `layout -1 ""`}, {`""`, `layout -1 ""`}, {",,", `layout -1 ""`}, {"nnnn,nnn,", `layout -1 ""`}, {",nnnn,nnn", `layout -1 ""`},
		{",", `layout 0 ""`}, {"nnn,nnn", `layout 0 ""`}, {"nnnnn,nnn", `layout 0 ""`}, {"nnnn,nn", `layout 1 ""`}, {"nnnn,nnnn", `layout 1 ""`}, {"nnnn,", `layout 1 ""`}, {",nnn", `layout 0 ""`}, {"nnn,nnnn", `layout 0 ""`},
	} {
		setup := list(lang("g", `token o = /\(/; token c = /\)/; token x = /x/; token y = /y/; skip ws = / +/; start S; S = o S c | x y;`), "ok", `open d g "x  y"`, "ok")
		plays(t, append(setup, `layout p g " " " " "" `+c.gaps, c.want)...)
		if c.want != "ok" { // it makes nothing, and takes no place
			plays(t, append(setup, `layout p g " " " " "" `+c.gaps, c.want, "print p d 0", "none", `layout p g " " " " "" nnnn,nnn`, "ok", `layout p g " " " " "" `+c.gaps, c.want, "print p d 0", `ok "xy"`)...)
		}
	}
}

// TestRules is P2005 of BLANK, LINE and INDENT: the faults of layout.New; a letter that is none goes ahead of them.
func TestRules(t *testing.T) {
	most, more := quoteOf(strings.Repeat(" ", 64)), quoteOf(strings.Repeat("\n", 65))
	for at := range 3 {
		for _, c := range []struct{ word, want string }{{most, "ok"}, {more, `long -1 ""`}, {`""`, "ok"}, {`"\t\n\x0d "`, "ok"}, {`"\r"`, "command"}, {"x", `layout -1 ""`}, {`"\x00"`, `layout -1 ""`}, {`" \v"`, "command"}, {`" \x0b"`, `layout -1 ""`}, {"\xff", `layout -1 ""`}} {
			words := list(`" "`, `" "`, `" "`)
			words[at] = c.word
			rules := strings.Join(words, " ")
			plays(t, lang("g", ten), "ok", "layout p g "+rules+" "+linedGaps, c.want)
			if c.want == "command" {
				continue
			}
			plays(t, lang("g", ten), "ok", "layout p g "+rules+" "+linedGaps+"z", "layout", "layout p g "+rules+" nn", map[bool]string{true: c.want, false: `layout -1 ""`}[strings.HasPrefix(c.want, "long")])
		}
	}
}

// TestLongPrint: what would be printed may be too long.
func TestLongPrint(t *testing.T) {
	blank := quoteOf(strings.Repeat(" ", 64))
	plays(t, lang("g", ten), "ok", "open d g "+strings.Repeat("1;", 4096), "ok", "layout p g "+blank+` " " "" `+"nnn,n,nbn,nnn,nnnn,nn,nn", "ok", "print p d 0", "long", "edit d 0 7800 392 \"\"", "ok 1", "print p d 1", "ok "+quoteOf(strings.TrimSpace(strings.Repeat("1"+strings.Repeat(" ", 64)+";", 3900))))
}
