package paint_test

import (
	"strings"
	"testing"

	"graft/api"
)

// TestTries is ErrTries: just MaxTries findings, and one more, of one query and of two together; findings without the capture count too. Only the queries that a call asks count.
func TestTries(t *testing.T) {
	e := compiled(t, strict)
	text := "b\n" + strings.Repeat("b", 4092) + "b\n"
	v := opened(t, e, text) // broken: a root, 4094 leaves, the end
	full := strings.Repeat("_ @it ", 256)
	plain := strings.Repeat("_ ", 255) + "_ @it"
	over := []string{full + "$", "$ @it " + full, plain + " $", "(_) " + plain}
	all := row(0, len(text), "n")
	paints := []api.Paint{all}
	folds := []api.Span{span(0, len(text)), span(0, 2), span(len(text)-2, len(text))}
	for _, q := range []string{full, plain} {
		p := painter(t, e.Spec(), lists{styles(q, "n"), []string{q}, []string{q}})
		wantPaints(t, "just MaxTries", p, v, paints...)
		wantFolds(t, "just MaxTries", p, v, folds...)
		if l, err := p.Outline(v.root, v.text); err != api.OK || len(l) != 4096 || l[0] != entry(0, 0, len(text), "") || l[4095] != entry(1, len(text), len(text), "") {
			t.Errorf("P1604: %d entries, %v", len(l), err)
		}
		p = painter(t, e.Spec(), lists{styles(q, "m", full, "n"), []string{q, plain}, nil})
		wantPaints(t, "just MaxTries twice", p, v, paints...)
		wantFolds(t, "just MaxTries twice", p, v, folds...)
	}
	p := painter(t, e.Spec(), lists{outline: []string{full, "$ @it", plain}})
	if l, err := p.Outline(v.root, v.text); err != api.OK || len(l) != 4096 {
		t.Errorf("P1604: %d entries, %v", len(l), err)
	}
	for _, q := range over {
		wantRefused(t, "one more", painter(t, e.Spec(), lists{styles(q, "n"), []string{q}, []string{q}}), v, api.ErrTries)
		wantRefused(t, "one more, behind others", painter(t, e.Spec(), lists{styles("b @it", "b", q, "n", "b @it", "c"), []string{"b @it", q}, []string{q, "b @it"}}), v, api.ErrTries)
	}
	p = painter(t, e.Spec(), lists{styles(over[0], "n"), []string{over[0]}, []string{over[0]}})
	wantRefused(t, "ErrArg comes first", p, version{v.root, v.text[1:]}, api.ErrArg)
	told(t, p, opened(t, e, "ab")) // the same painter, asked of less
	wantAskedAlone(t, e.Spec(), v, over[0], all)
}

// wantAskedAlone holds that a query of one list changes nothing of what the other lists tell.
func wantAskedAlone(t *testing.T, s api.Spec, v version, over string, all api.Paint) {
	t.Helper()
	p := painter(t, s, lists{styles(over, "n"), []string{"(_) @it"}, []string{"(_) @it"}})
	wantFolds(t, "too much is painted", p, v, span(all.From, all.To))
	wantOutline(t, "too much is painted", p, v, entry(0, all.From, all.To, ""))
	p = painter(t, s, lists{styles("_ @it", "n"), []string{over}, []string{over}})
	wantPaints(t, "too much is folded and listed", p, v, all)
	if l, e := p.Folds(v.root, v.text); e != api.ErrTries || len(l) > 0 {
		t.Errorf("P1603: %v", e)
	}
	if l, e := p.Outline(v.root, v.text); e != api.ErrTries || len(l) > 0 {
		t.Errorf("P1604: %v", e)
	}
}

// TestManyMore is P1: a query with more findings than can be waited for is refused.
func TestManyMore(t *testing.T) {
	e := compiled(t, ten)
	v := opened(t, e, strings.Repeat("+", 5000)+";")
	for _, q := range []string{"(!" + strings.Repeat(" plus", 700) + " plus @it)", "(_" + strings.Repeat(" ~ _", 500) + ") @it", "(!" + strings.Repeat(" plus @it) (!", 200) + " plus plus plus plus)"} {
		wantRefused(t, q[:9], painter(t, e.Spec(), lists{styles(q, "n"), []string{q}, []string{q}}), v, api.ErrTries)
	}
}
