package scan_test

import (
	"fmt"
	"math/rand"
	"slices"
	"testing"

	"graft/api"
	"graft/expr"
	"graft/rope"
	"graft/scan"
)

func rng(from, to int) api.Expr { return api.Expr{Kind: api.XRange, From: from, To: to} }

func seq(list ...api.Expr) api.Expr { return api.Expr{Kind: api.XSeq, List: list} }

func alt(list ...api.Expr) api.Expr { return api.Expr{Kind: api.XAlt, List: list} }

func rep(least, most int, e api.Expr) api.Expr {
	return api.Expr{Kind: api.XRepeat, Min: least, Max: most, List: []api.Expr{e}}
}

func tok(rule, length, reach int) api.Token {
	return api.Token{Rule: rule, Len: length, Reach: reach}
}

func lf(kind, skip, length, reach int) api.Leaf {
	return api.Leaf{Kind: kind, Skip: skip, Len: length, Reach: reach}
}

// lexOf makes rules of texts; one that begins with '@' is trivia.
func lexOf(t *testing.T, texts ...string) []api.LexRule {
	t.Helper()
	var lex []api.LexRule
	for i, text := range texts {
		trivia := text[0] == '@'
		if trivia {
			text = text[1:]
		}
		e, f := expr.Parse(text)
		if f.Err != api.OK {
			t.Fatalf("%s: %+v", text, f)
		}
		lex = append(lex, api.LexRule{Name: fmt.Sprint("rule", i), Trivia: trivia, Expr: e})
	}
	return lex
}

func built(t *testing.T, lex []api.LexRule) *scan.Scanner {
	t.Helper()
	s, f := scan.New(lex)
	if s == nil || f != (api.Fault{}) {
		t.Fatalf("P401: New: %v %+v", s != nil, f)
	}
	return s
}

func made(t *testing.T, texts ...string) *scan.Scanner {
	t.Helper()
	return built(t, lexOf(t, texts...))
}

func ropeOf(t *testing.T, text string) *rope.Rope {
	t.Helper()
	r, e := rope.New([]byte(text))
	if r == nil || e != api.OK {
		t.Fatalf("rope: %v", e)
	}
	return r
}

// crumbs is the rope of a text, put together of pieces of n bytes.
func crumbs(t *testing.T, text string, n int) *rope.Rope {
	t.Helper()
	r := ropeOf(t, "")
	for b := range slices.Chunk([]byte(text), n) {
		var e api.Errno
		if r, e = r.Splice(r.Len(), 0, b); e != api.OK {
			t.Fatalf("rope: %v", e)
		}
	}
	return r
}

// token tells what stands at the front of a text, as the document says it, by the patterns alone.
func token(lex []api.LexRule, text string) api.Token {
	t := api.Token{Rule: api.KBad, Len: 1, Reach: len(text) + 1}
	for n := 1; n <= len(text); n++ {
		front := []byte(text[:n])
		if !begins(lex, front) {
			t.Reach = n
			return t
		}
		for i, rule := range lex {
			if is, _ := expr.Match(rule.Expr, front); is {
				t.Rule, t.Len = i, n
				break
			}
		}
	}
	return t
}

// begins tells whether a row begins one that a rule matches.
func begins(lex []api.LexRule, row []byte) bool {
	for _, rule := range lex {
		if is, _ := expr.Live(rule.Expr, row); is {
			return true
		}
	}
	return false
}

func tokens(lex []api.LexRule, text string) []api.Token {
	var list []api.Token
	for at := 0; at < len(text); at += list[len(list)-1].Len {
		list = append(list, token(lex, text[at:]))
	}
	return list
}

// leaf tells the leaf at the front of a text: how far each token looked, and the greatest of these.
func leaf(lex []api.LexRule, text string) api.Leaf {
	reach, at := 0, 0
	for at < len(text) {
		t := token(lex, text[at:])
		reach = max(reach, at+t.Reach)
		if t.Rule == api.KBad || !lex[t.Rule].Trivia {
			return api.Leaf{Kind: t.Rule, Skip: at, Len: t.Len, Reach: reach}
		}
		at += t.Len
	}
	return api.Leaf{Kind: api.KEnd, Skip: at, Reach: at + 1}
}

func leaves(lex []api.LexRule, text string) []api.Leaf {
	var list []api.Leaf
	for at := 0; ; {
		l := leaf(lex, text[at:])
		list = append(list, l)
		if l.Kind == api.KEnd {
			return list
		}
		at += l.Skip + l.Len
	}
}

// some is a tree of at most that depth, over the bytes a to c.
func some(d *rand.Rand, depth int) api.Expr {
	if depth == 1 || d.Intn(4) == 0 {
		from := 'a' + d.Intn(3)
		return rng(from, from+d.Intn('d'-from))
	}
	var list []api.Expr
	for range 2 + d.Intn(2) {
		list = append(list, some(d, depth-1))
	}
	switch d.Intn(8) {
	case 0, 1, 2:
		return seq(list...)
	case 3:
		return alt(list...)
	case 4:
		return alt(list[0], seq())
	}
	least := d.Intn(3)
	most := least + d.Intn(3)
	if d.Intn(2) == 0 {
		most = -1
	}
	return rep(least, most, list[0])
}

// someLex is rules that New takes.
func someLex(d *rand.Rand, most int) []api.LexRule {
	var lex []api.LexRule
	for n := d.Intn(most + 1); len(lex) < n; {
		if e := some(d, 1+d.Intn(5)); expr.Check(e) == api.OK && !expr.Empty(e) {
			lex = append(lex, api.LexRule{Trivia: d.Intn(3) == 0, Expr: e})
		}
	}
	return lex
}

// someText is a text of n bytes; one byte in thirty is of no rule that someLex makes.
func someText(d *rand.Rand, n int) string {
	b := make([]byte, n)
	for i := range b {
		b[i] = byte('a' + d.Intn(3))
		if d.Intn(30) == 0 {
			b[i] = byte(d.Intn(256))
		}
	}
	return string(b)
}

func patterns(lex []api.LexRule) []string {
	var list []string
	for _, rule := range lex {
		text, _ := expr.Print(rule.Expr)
		if rule.Trivia {
			text = "@" + text
		}
		list = append(list, text)
	}
	return list
}
