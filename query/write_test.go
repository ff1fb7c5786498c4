package query_test

import (
	"math/rand"
	"slices"
	"testing"

	"graft/api"
	"graft/query"
)

// TestPrint is P1403 of single queries.
func TestPrint(t *testing.T) {
	s := readSpec(t, ten)
	for _, c := range []struct{ text, print string }{
		{"num", "num"}, {" num ", "num"}, {`"num"`, "num"}, {`"\x6eu\x6D"`, "num"}, {"num plus\nsemi", "num plus semi"}, {"_!$", "_ ! $"},
		{"(_)", "(_)"}, {"( ! )", "(!)"}, {"(L)", "(L)"}, {`("L")`, "(L)"}, {"(L.)", "(L .)"}, {"(L num)", "(L num)"}, {"(L.num)", "(L . num)"}, {"(L~num)", "(L ~ num)"}, {"(L.~num)", "(L . ~ num)"}, {"(L num.)", "(L num .)"}, {"(L.num.)", "(L . num .)"}, {"(L.num.plus~semi.~_.)", "(L . num . plus ~ semi . ~ _ .)"},
		{`num="1"`, `num = "1"`}, {`num="1"^"2"-"3"="1"`, `num = "1" ^ "2" - "3" = "1"`}, {`(L)=""@x`, `(L) = "" @x`}, {`num@x`, "num @x"}, {`num @x1_Y num@x1_Y`, "num @x1_Y num @x1_Y"},
		{"(L(S(E num@a)@b)@c)@d", "(L (S (E num @a) @b) @c) @d"}, {`_="\x00\x1f\x20\x7e\x7f\x80\xFF"`, `_ = "\x00\x1f ~\x7f\x80\xff"`}, {`_="\"\\\x22\x5C"`, `_ = "\"\\\"\\"`}, {`_ = "@(.~) _"`, `_ = "@(.~) _"`},
	} {
		wantPrint(t, s, c.text, c.print)
		wantPrint(t, s, c.print, c.print)
	}
}

// TestPrintLong is P1403 and P1407 of queries whose one form is longer than MaxQuery bytes: they are printed all the same.
func TestPrintLong(t *testing.T) {
	s := readSpec(t, ten)
	text, print := "", ""
	for len(text)+7 <= api.MaxQuery {
		text += `_=""(!)`
		print += ` _ = "" (!)`
	}
	wantPrint(t, s, text, print[1:])
	wantFault(t, s, print[1:], api.ErrLong, 0)
}

// TestNames is P1403: the words behind `@`, in the order of their first standing, each once.
func TestNames(t *testing.T) {
	s := readSpec(t, ten)
	for _, c := range []struct {
		text string
		want []string
	}{
		{"num", nil}, {"num @x", []string{"x"}}, {"num @x num @x", []string{"x"}}, {"num @b (L ~ num @a) @b num @a", []string{"b", "a"}}, {"(L num @a) @b", []string{"a", "b"}}, {"(L (S num @c) @b (E) @z) @a num @b num @y", []string{"c", "b", "z", "a", "y"}}, {"_ @a _ @A _ @aa _ @a", []string{"a", "A", "aa"}},
	} {
		q := parsed(t, s, c.text)
		for range 2 {
			if got := q.Names(); !slices.Equal(got, c.want) {
				t.Errorf("P1403: %q: %v, not %v", c.text, got, c.want)
			}
		}
	}
}

// TestForms is P1403 and P1407: queries in any form are printed in one, which is read as the same.
func TestForms(t *testing.T) {
	r := rand.New(rand.NewSource(1403))
	odd := api.Spec{Lex: []api.LexRule{{Name: "a b"}, {Name: ""}, {Name: "w"}, {Name: `"\`}, {Name: "t", Trivia: true}, {Name: "\x00\xff"}}, Names: []string{"", "N", "_", "\n", "9"}}
	for i, s := range []api.Spec{readSpec(t, ten), readSpec(t, calls), odd} {
		g := &guesser{r: r, s: s, text: "1 +\x00\"\\2;"}
		for range 3000 {
			l := g.query()
			text := joined(r, allTokens(r, l))
			q, f := query.Parse(s, text)
			if q == nil || f != (api.Fault{}) {
				t.Fatalf("P1402: %d: %q: %+v", i, text, f)
			}
			print := printAll(l)
			if got := q.Print(); got != print {
				t.Fatalf("P1403: %q: %q, not %q", text, got, print)
			}
			if got := q.Names(); !slices.Equal(got, names(l)) {
				t.Fatalf("P1403: %q: %v, not %v", text, got, names(l))
			}
			again := parsed(t, s, print)
			if again.Print() != print || !slices.Equal(again.Names(), q.Names()) {
				t.Fatalf("P1407: %q: %q", print, again.Print())
			}
		}
	}
}
