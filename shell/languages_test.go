package shell_test

import (
	"fmt"
	"strings"
	"testing"
)

// many is a spec of too many states: 128 right sides, unlike in their first seven symbols, with sixteen each.
func many() string {
	var rights []string
	for i := range 128 {
		row := strings.NewReplacer("0", " a", "1", " b").Replace(fmt.Sprintf("%07b", i))
		rights = append(rights, row+strings.Repeat(" a", 9))
	}
	return "token a = /a/; token b = /b/; start S; S =" + strings.Join(rights, " |") + ";"
}

// TestLang is P2005 of lang: the language, or the fault of spec.Parse, or that of engine.Compile.
func TestLang(t *testing.T) {
	n := strings.Repeat("n", 64)
	rules := ""
	for i := range 64 {
		rules += fmt.Sprintf("token a%02d = /a/;", i)
	}
	for _, c := range []struct{ text, want string }{
		{"", `start 0 ""`}, {"start A;", `unknown 6 "A"`}, {"start A; A = ;", "ok"}, {"token a = /b;", `slash 10 ""`}, {"token a = /(/;", `slash 12 ""`}, {"token a = /x/; token a = /y/;", `twice 21 "a"`}, {"token error = /x/;", `spec 6 ""`}, {"A = token;", `spec 4 ""`}, {"A = b", `spec 5 ""`}, {"start A; start A;", `start 9 ""`}, {"A = B; start A;", `unknown 4 "B"`},
		{"token " + n + "n = /x/;", `long 6 "` + n + `"`}, {rules + "token b = /b/;", fmt.Sprintf(`long %d ""`, len(rules))}, {"start S; S = ; \xff", `spec 15 ""`}, {"start S; S = ; // \xff\n", "ok"},
		{"token a = /a*/; start S; S = a;", `empty 0 ""`}, {"token b = /b/; token a = /a?/; start S; S = a b;", `empty 1 ""`},
		{"token a = /a/; skip w = / /; start S; S = a | w;", `trivia 1 ""`}, {"token a = /a/; start S; S = a; T = a;", `unreached 1 ""`}, {"token a = /a/; token b = /b/; start S; S = a;", `unreached 1 ""`}, {"token a = /a/; start S; S = a | C; C = a C;", `unproductive 1 ""`},
		{"start A; A = B B; B = C C; C = D D; D = E E; E = F F; F = G G; G = H H; H = I I; I = ;", `full 0 ""`}, {"token x = /(a|b)*a(a|b){11}/; start S; S = x;", `sets 0 ""`}, {many(), `states 0 ""`}, {ambiguous, `conflict 0 ""`}, {ten, "ok"}, {great, "ok"},
	} {
		line := "lang g " + quoteOf(c.text)
		plays(t, line, c.want)
		if c.want != "ok" { // it makes nothing, and takes no place
			plays(t, line, c.want, "spec g", "none", lang("g", ten), "ok", line, c.want, "tokens g 1x", "ok 0.1.2 -1.1.1", "states g", "ok 11")
		}
	}
	for _, l := range languages() {
		plays(t, lang("g", l.spec), "ok")
	}
	plays(t, lang("g", ten), "ok", "tokens g 1x", "ok 0.1.2 -1.1.1", lang("g", great), "ok", "tokens g 1x", "ok -1.1.1 0.1.2", lang("h", ten), "ok", "tokens g 1x", "ok -1.1.1 0.1.2", "tokens h 1x", "ok 0.1.2 -1.1.1")
}

// TestSpec is P2005 of spec, states, first and tokens, by what the chapters below say of the examples.
func TestSpec(t *testing.T) {
	plays(t,
		lang("g", ten), "ok",
		"spec g", `ok "token num = /[0-9]+/;\ntoken plus = /\\+/;\ntoken semi = /;/;\nskip ws = / +/;\nstart L;\nL = L S |;\nS = E semi | error semi;\nE = E plus T | T;\nT = num;\n"`,
		"states g", "ok 11",
		"first g", "ok 0,4 0,4 0 0",
		"tokens g 1", "ok 0.1.2",
		`tokens g ""`, "ok",
		`tokens g "1 +#"`, "ok 0.1.2 3.1.2 1.1.2 -1.1.1",
		"tokens g \xff\xfe", "ok -1.1.1 -1.1.1",
		`tokens g "\x00\n12"`, "ok -1.1.1 -1.1.1 0.2.3",
		lang("h", "token num = /[0-9]+/; token dots = /[.]{3}/; skip ws = / +/; token dot = /[.]/; start S; S = num dots dot;"), "ok",
		`tokens h "12 ."`, "ok 0.2.3 2.1.2 3.1.2",
		"tokens h ..x", "ok 3.1.3 3.1.2 -1.1.1",
		"tokens h ...", "ok 1.3.4",
		"first h", "ok 0",
		"states h", "ok 5",
		lang("k", "token a = /a/; token b = /b/; skip w = / /; token c = /c/; start S; S = A B c | error; A = a A | ; B = b | A; "), `conflict 0 ""`,
		lang("n", "start N; N = M M; M = ;"), "ok",
		"first n", "ok - -",
		"states n", "ok 4",
		"spec n", `ok "start N;\nN = M M;\nM =;\n"`,
		`tokens n "a b"`, "ok -1.1.1 -1.1.1 -1.1.1",
		lang("m", "token a = /a/; token b = /b/; token c = /c/; start S; S = T c | ; T = a | b T | ;"), "ok",
		"first m", "ok 0,1,2 0,1",
	)
	wide := "token x = /" + strings.Repeat("[^b]", 1000) + "/; start S; S = x;"
	plays(t, lang("g", wide), "ok", "spec g", "long", "states g", "ok 3", "first g", "ok 0", "open d g "+strings.Repeat("x", 1000), "ok", "leaves d 0", "ok 0.0.1000.1001 -2.0.0.1") // its one text would be longer than may be
}

// TestConflicts is P2005 of conflicts: of texts whose grammar has some, none, or is not in order.
func TestConflicts(t *testing.T) {
	plays(t,
		"conflicts "+quoteOf(ten), "ok",
		"conflicts "+quoteOf(ambiguous), "ok 4.1.3.0.-2", // in the state behind E plus E, at plus: a shift to the state behind E plus, and the production
		`conflicts "token X = /X/; start S; S = A | B; A = X; B = X;"`, "ok 1.2.-1.2.3", // two productions at end
		`conflicts "start S; S = S | ;"`, "ok 1.1.-1.-1.0", // acceptance counts as -1
		`conflicts ""`, `start 0 ""`,
		`conflicts "start A;"`, `unknown 6 "A"`,
		`conflicts "token a = /(/;"`, `slash 12 ""`,
		`conflicts "token a = /a/; token b = /b/; start S; S = a;"`, `unreached 1 ""`,
		`conflicts "token a = /a/; start S; S = a S;"`, `unproductive 0 ""`,
		`conflicts "token a = /a/; skip w = / /; start S; S = a w;"`, `trivia 0 ""`,
		"conflicts "+quoteOf(many()), `states 0 ""`,
		`conflicts "token a = /a*/; start S; S = a;"`, "ok", // patterns are not looked at
		`conflicts "token x = /(a|b)*a(a|b){11}/; start S; S = x | S S;"`, "ok 3.0.1.1.-2",
	)
	for _, l := range languages() {
		plays(t, "conflicts "+quoteOf(l.spec), "ok")
	}
}
