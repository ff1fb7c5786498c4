package engine_test

import (
	"math/rand"
	"testing"

	"graft/api"
	"graft/engine"
)

// TestEdits is P1303 to P1310 for many documents of many languages: any version is edited, more than once, in any order, and edits are refused in between.
func TestEdits(t *testing.T) {
	t.Parallel()
	met := map[string]int{}
	sound(t, 1301, 700, func(r *rand.Rand, s api.Spec, e *engine.Engine) {
		w := newWriter(r, s)
		d := watched(t, e, newModel(s), w.text(12))
		for range 12 {
			from := len(d.shots) - 1
			if r.Intn(3) == 0 {
				from = r.Intn(len(d.shots))
			}
			change := w.edit(d.shots[from].text, 12)
			if size := len(d.shots[from].text); r.Intn(6) == 0 {
				d.refused(t, from, size+1, 0, change.Ins, api.ErrRange)
				d.refused(t, len(d.shots), 0, 0, change.Ins, api.ErrVersion)
			}
			d.edit(t, from, change)
			met[sort(d.shots[from])+" to "+sort(d.shots[len(d.shots)-1])]++
			count(met, d)
		}
	})
	for _, what := range []string{"right to right", "right to wrong", "right to broken", "wrong to right", "wrong to wrong", "wrong to broken", "broken to right", "broken to wrong", "broken to broken", "all nodes stay", "no node stays", "some nodes stay", "errors side by side", "an error without leaves", "an error below another", "an error at the front", "an error at the end"} {
		if met[what] < 100 {
			t.Errorf("too few texts: %s: %d", what, met[what])
		}
	}
}

// sort is what kind of text a version has.
func sort(s shot) string {
	switch {
	case s.root.Kind() == api.NBroken:
		return "broken"
	case s.root.Failed():
		return "wrong"
	}
	return "right"
}

// count keeps in mind what the newest version shows.
func count(met map[string]int, d *watch) {
	now := d.shots[len(d.shots)-1]
	ids := map[int]bool{}
	for _, r := range d.shots[now.parent].rows {
		ids[r.Id] = true
	}
	stay, errors := 0, 0
	for _, r := range now.rows {
		if ids[r.Id] {
			stay++
		}
		if r.Kind == api.NError {
			errors++
		}
	}
	switch stay {
	case 0:
		met["no node stays"]++
	case len(now.rows):
		met["all nodes stay"]++
	default:
		met["some nodes stay"]++
	}
	if errors > len(now.errors) {
		met["an error below another"]++
	}
	for i, s := range now.errors {
		switch {
		case now.root.Kind() == api.NBroken:
			continue
		case s.From == s.To:
			met["an error without leaves"]++
		case s.From == 0:
			met["an error at the front"]++
		case s.To == len(now.text):
			met["an error at the end"]++
		}
		if i > 0 && now.errors[i-1].To == s.From {
			met["errors side by side"]++
		}
	}
}

// TestTyping edits longer texts as they are typed, byte by byte, and takes some of it back by editing older versions.
func TestTyping(t *testing.T) {
	r := rand.New(rand.NewSource(1305))
	for _, c := range []struct{ spec, text, bytes string }{
		{ten, "12+3 ; 4;5+6+7;  8;", "0123456789++;;;  #"},
		{ten, "", "1+;"},
		{calls, "a = f(1, 2.5, \"x\");\nb = g();# note\nf(a, (b), h(c));\n", "ab 12.,,=()\";;\n#"},
	} {
		for range 4 {
			d := watched(t, compiled(t, c.spec), nil, c.text)
			for range 60 {
				from := len(d.shots) - 1
				if r.Intn(4) == 0 {
					from = r.Intn(len(d.shots))
				}
				at := r.Intn(len(d.shots[from].text) + 1)
				change := api.Edit{At: at, Del: min(r.Intn(3)*r.Intn(3), len(d.shots[from].text)-at)}
				for range r.Intn(4) {
					change.Ins = append(change.Ins, c.bytes[r.Intn(len(c.bytes))])
				}
				d.edit(t, from, change)
			}
		}
	}
}
