package pack_test

import (
	"math/rand"
	"slices"
	"strings"
	"testing"

	"graft/api"
	"graft/engine"
	"graft/pack"
)

// doced is a document's pack, with its sum: a spec's pack, and whatever else.
func doced(spec []byte, rest ...byte) []byte {
	return summed(slices.Concat([]byte("graftdoc"), sized(4, string(spec)), rest))
}

// someDocs are packs of documents of many kinds, none of them long.
func someDocs(t testing.TB) [][]byte {
	t.Helper()
	r := rand.New(rand.NewSource(1806))
	var list [][]byte
	for i := range 2 * len(languages()) {
		e, d := grownDoc(t, r, languages()[i/2], 1+r.Intn(6))
		list = append(list, packedDoc(t, e, d))
	}
	return append(list, smallDoc(t))
}

// smallDoc is a document's pack of few bytes, with versions of all kinds.
func smallDoc(t testing.TB) []byte {
	t.Helper()
	e := compiled(t, nothing())
	d := opened(t, e, "ab")
	edit(t, d, 0, 1, 1, "cd")
	edit(t, d, 0, 2, 0, "")
	edit(t, d, 1, 0, 3, "")
	return packedDoc(t, e, d)
}

// TestDocCut is P1804 and P1806: a pack that is cut anywhere ends too early, at its length.
func TestDocCut(t *testing.T) {
	c := compiles{}
	for _, b := range someDocs(t) {
		for n := range b {
			if bad := wantDoc(t, "cut", b[:n], c); bad != (told{n, api.ErrCut}) {
				t.Fatalf("P1804: cut at %d: %+v", n, bad)
			}
		}
		if bad := wantDoc(t, "whole", b, c); bad != (told{}) {
			t.Fatalf("P1804: %+v", bad)
		}
	}
}

// TestDocBehind is P1804: bytes behind a pack are none of it.
func TestDocBehind(t *testing.T) {
	for _, b := range someDocs(t) {
		for _, more := range [][]byte{{0}, {255}, {1, 2, 3, 4}, b, summed(b)[len(b):]} {
			wantDocAt(t, "bytes behind", slices.Concat(b, more), len(b), api.ErrPack)
		}
		wrong := turned(b, len(b)-4, b[len(b)-4]+1)
		wantDocAt(t, "a wrong sum and bytes behind", append(wrong, 0), len(b)-4, api.ErrSum)
	}
}

// specEnd is the place behind the spec's pack in a document's.
func specEnd(b []byte) int { return 12 + int(b[8]) + int(b[9])<<8 + int(b[10])<<16 }

// bothSummed puts the sum of the spec's pack right, and then the document's.
func bothSummed(b []byte, end int) []byte {
	return resummed(slices.Concat(b[:12], resummed(b[12:end]), b[end:]))
}

// TestDocEachByte turns each byte of a document's pack to each other value, with the sums put right behind that and not.
func TestDocEachByte(t *testing.T) {
	t.Parallel()
	met := map[api.Errno]int{}
	c := compiles{}
	turn := func(b []byte, at, end, value int) {
		x := turned(b, at, byte(value))
		bad := wantDoc(t, "a byte turned", x, c)
		if (bad.err == api.OK) != (byte(value) == b[at]) {
			t.Fatalf("P1806: byte %d as %d: %+v", at, value, bad)
		}
		met[bad.err]++
		met[wantDoc(t, "a byte turned, with the sum", resummed(x), c).err]++
		met[wantDoc(t, "a byte turned, with both sums", bothSummed(x, end), c).err]++
	}
	small := smallDoc(t)
	for at := range small {
		for value := range 256 {
			turn(small, at, specEnd(small), value)
		}
	}
	for i, b := range someDocs(t) {
		for at := i % 3; at < len(b); at += 3 {
			for _, value := range []int{0, 1, 2, 4, 65, 255, int(b[at]) + 1} {
				turn(b, at, specEnd(b), value)
			}
		}
	}
	for _, err := range []api.Errno{api.OK, api.ErrPack, api.ErrCut, api.ErrSum} {
		if met[err] < 300 {
			t.Errorf("too few packs: %v: %d", err, met[err])
		}
	}
}

// TestDocTwoBytes turns several bytes at once, cuts what is left, and puts bytes in.
func TestDocTwoBytes(t *testing.T) {
	t.Parallel()
	r := rand.New(rand.NewSource(1807))
	list := someDocs(t)
	met := map[api.Errno]int{}
	c := compiles{}
	for range 6000 {
		b := slices.Clone(list[r.Intn(len(list))])
		end := specEnd(b)
		for range 1 + r.Intn(3) {
			from := []int{0, 8, 12, end, end}[r.Intn(5)]
			at := from + r.Intn(len(b)-from)
			value := []byte{0, 1, 2, 3, 4, 255, b[at] + 1, b[at] - 1, byte(r.Intn(256))}[r.Intn(9)]
			switch {
			case at >= end && r.Intn(4) == 0:
				b = slices.Insert(b, at, value)
			case at >= end && r.Intn(4) == 0:
				b = slices.Delete(b, at, at+1)
			default:
				b[at] = value
			}
		}
		switch r.Intn(5) {
		case 0:
			b = b[:r.Intn(len(b)+1)]
		case 1:
			b = resummed(b)
		case 2, 3:
			b = bothSummed(b, end)
		}
		met[wantDoc(t, "bytes turned", b, c).err]++
	}
	for _, err := range []api.Errno{api.OK, api.ErrPack, api.ErrCut, api.ErrSum} {
		if met[err] < 100 {
			t.Errorf("too few packs: %v: %d", err, met[err])
		}
	}
}

// TestDocWord is P1804: the first eight bytes.
func TestDocWord(t *testing.T) {
	b := smallDoc(t)
	for i := range 8 {
		wantDocAt(t, "another byte", turned(b, i, 'x'), i, api.ErrPack)
		wantDocAt(t, "another byte, cut behind it", turned(b, i, 'x')[:i+1], i, api.ErrPack)
		wantDocAt(t, "cut", b[:i], i, api.ErrCut)
	}
	wantDocAt(t, "no bytes", nil, 0, api.ErrCut)
	wantDocAt(t, "a spec's pack", packed(t, nothing()), 5, api.ErrPack)
}

// TestDocSpec is P1804 of the spec's pack: how many bytes it has, and the faults within.
func TestDocSpec(t *testing.T) {
	p := packed(t, nothing())
	rest := []byte{1, 0, 0, 0, 0, 0}
	number := func(n int, more ...byte) []byte {
		return append([]byte{'g', 'r', 'a', 'f', 't', 'd', 'o', 'c', byte(n), byte(n >> 8), byte(n >> 16), byte(n >> 24)}, more...)
	}
	all := slices.Concat(p, rest)
	for _, c := range []struct {
		what string
		b    []byte
		at   int
		err  api.Errno
	}{
		{"right", summed(number(21, all...)), 0, api.OK},
		{"a byte too few: the pack within is cut at its end", summed(number(20, all...)), 32, api.ErrCut},
		{"none", summed(number(0, all...)), 12, api.ErrCut},
		{"eight", summed(number(8, all...)), 20, api.ErrCut},
		{"a byte too many: it stands behind the pack within", summed(number(22, all...)), 33, api.ErrPack},
		{"just what is there", number(len(all), all...), 33, api.ErrPack},
		{"one above what is there", number(len(all)+1, all...), 12 + len(all), api.ErrCut},
		{"one above what is there, and another word within", number(len(all)+1, turned(all, 0, 'x')...), 12 + len(all), api.ErrCut},
		{"MaxPack", number(api.MaxPack, all...), 12 + len(all), api.ErrCut},
		{"one above MaxPack", number(api.MaxPack+1, all...), 8, api.ErrPack},
		{"one above MaxPack, cut behind the number", number(api.MaxPack + 1), 8, api.ErrPack},
		{"one above MaxPack, cut within the number", number(api.MaxPack + 1)[:11], 11, api.ErrCut},
		{"the greatest number", number(1<<32-1, all...), 8, api.ErrPack},
		{"another word within", number(21, turned(all, 5, 'd')...), 17, api.ErrPack},
		{"a fault within", number(21, turned(all, 9, 129)...), 21, api.ErrPack},
		{"a wrong sum within", number(21, turned(all, 17, p[17]^1)...), 29, api.ErrSum},
		{"a start within that is none", number(21, turned(all, 12, 7)...), 24, api.ErrPack},
		{"a number within that is too great for what is there", summed(number(21, turned(all, 10, 60)...)), 33, api.ErrCut},
		{"nothing behind it", number(21, p...), 33, api.ErrCut},
	} {
		wantDocAt(t, c.what, c.b, c.at, c.err)
	}
}

// TestDocRefusedSpecs is P1804: specs that have packs, but that engine.Compile refuses, are told at the spec's pack, ahead of all behind it.
func TestDocRefusedSpecs(t *testing.T) {
	for _, text := range []string{
		ambiguous,
		"start A; A = A;",
		"token a = /a/; start A; A = ;",
		"token a = /a*/; start A; A = a;",
		"skip w = / /; start S; S = w;",
		"token a = /(a|b)*a(a|b){11}/; start A; A = a;",
	} {
		s := read(t, text)
		if e, _ := engine.Compile(s); e != nil {
			t.Fatalf("it is taken: %s", text)
		}
		b := packed(t, s)
		wantDocAt(t, text, docBytes(b, first("")), 12, api.ErrPack)
		wantDocAt(t, text+", and nothing behind it", doced(b)[:12+len(b)], 12, api.ErrPack)
		wantDocAt(t, text+", and no versions behind it", doced(b, 0, 0), 12, api.ErrPack)
		wantDocAt(t, text+", and a wrong sum within", doced(turned(b, len(b)-1, b[len(b)-1]+1), 1, 0, 0, 0, 0, 0), 12+len(b)-4, api.ErrSum)
	}
}

// TestDocVersions is P1804 of the number of versions, and of the versions.
func TestDocVersions(t *testing.T) {
	p := packed(t, nothing())
	zeros := func(count int) []byte { return make([]byte, count) }
	for _, c := range []struct {
		what string
		b    []byte
		at   int
		err  api.Errno
	}{
		{"none", doced(p, 0, 0), 33, api.ErrPack},
		{"none, and cut behind the number", doced(p, 0, 0)[:35], 33, api.ErrPack},
		{"none, and cut within the number", doced(p, 0, 0)[:34], 34, api.ErrCut},
		{"one", doced(p, 1, 0, 0, 0, 0, 0), 0, api.OK},
		{"MaxVersions", doced(p, append([]byte{0, 16}, zeros(4+14*4095)...)...), 0, api.OK},
		{"MaxVersions, and one is not there", doced(p, append([]byte{0, 16}, zeros(4+14*4094)...)...), 12 + 21 + 2 + 4 + 14*4094 + 4, api.ErrCut},
		{"one above MaxVersions", doced(p, append([]byte{1, 16}, zeros(4+14*4096)...)...), 33, api.ErrPack},
		{"one above MaxVersions, and cut behind the number", doced(p, 1, 16)[:35], 33, api.ErrPack},
		{"the greatest number", doced(p, 255, 255), 33, api.ErrPack},
		{"a text", doced(p, 1, 0, 1, 0, 0, 0, 'x'), 0, api.OK},
		{"a text that is not there", doced(p, 1, 0, 9, 0, 0, 0, 'x'), 44, api.ErrCut},
		{"a text of MaxText", docBytes(p, first(long(api.MaxText))), 0, api.OK},
		{"a text of MaxText that is not there", doced(p, 1, 0, 0, 0, 4, 0), 43, api.ErrCut},
		{"a text of one more", docBytes(p, first(long(api.MaxText+1))), 35, api.ErrPack},
		{"a text of one more, cut behind its number", doced(p, 1, 0, 1, 0, 4, 0)[:39], 35, api.ErrPack},
		{"a text of one more, cut within its number", doced(p, 1, 0, 1, 0, 4, 0)[:38], 38, api.ErrCut},
		{"a text of the greatest number", doced(p, 1, 0, 255, 255, 255, 255), 35, api.ErrPack},
		{"a number of bytes below the text's: the rest is no sum", doced(p, 1, 0, 0, 0, 0, 0, 'x'), 39, api.ErrSum},
		{"a version more than was said", doced(p, append([]byte{1, 0}, zeros(18)...)...), 39, api.ErrSum},
	} {
		wantDocAt(t, c.what, c.b, c.at, c.err)
	}
}

// TestDocEdits is P1804 of versions that Edit refuses, when they are read whole.
func TestDocEdits(t *testing.T) {
	p := packed(t, nothing())
	full := long(api.MaxText)
	for _, c := range []struct {
		what string
		list []api.Origin
		at   int // the place in the list of the one that is refused; -1: none
	}{
		{"an edit of nothing", []api.Origin{first(""), next(0, 0, 0, "")}, -1},
		{"its own parent", []api.Origin{first(""), next(1, 0, 0, "")}, 1},
		{"a parent that is not there yet", []api.Origin{first(""), next(2, 0, 0, ""), next(0, 0, 0, "")}, 1},
		{"the greatest parent", []api.Origin{first(""), next(65535, 0, 0, "")}, 1},
		{"a parent that is there by then", []api.Origin{first(""), next(0, 0, 0, ""), next(1, 0, 0, "")}, -1},
		{"at the end", []api.Origin{first("ab"), next(0, 2, 0, "c")}, -1},
		{"behind the end", []api.Origin{first("ab"), next(0, 3, 0, "c")}, 1},
		{"the greatest place", []api.Origin{first("ab"), next(0, 1<<32-1, 0, "c")}, 1},
		{"all taken out", []api.Origin{first("ab"), next(0, 0, 2, "")}, -1},
		{"one more taken out", []api.Origin{first("ab"), next(0, 0, 3, "")}, 1},
		{"the last one and one more", []api.Origin{first("ab"), next(0, 1, 2, "")}, 1},
		{"the greatest numbers", []api.Origin{first("ab"), next(0, 1<<32-1, 1<<32-1, "")}, 1},
		{"taken out of a version that has less", []api.Origin{first("ab"), next(0, 0, 2, ""), next(1, 0, 1, "")}, 2},
		{"an Ins of MaxText", []api.Origin{first(""), next(0, 0, 0, full)}, -1},
		{"an Ins of MaxText in place of all", []api.Origin{first(full), next(0, 0, api.MaxText, full)}, -1},
		{"a text that grows too long by one", []api.Origin{first(full), next(0, 9, 0, "x")}, 1},
		{"a text that grows too long by many", []api.Origin{first("x"), next(0, 0, 0, full)}, 1},
		{"a text that grows as long as may be", []api.Origin{first(full), next(0, 5, 1, "x")}, -1},
		{"two that are refused: the first", []api.Origin{first(""), next(0, 1, 0, ""), next(9, 0, 0, "")}, 1},
	} {
		b := docBytes(p, c.list...)
		at := 12 + 21 + 2
		for i := 0; i < c.at; i++ {
			at += len(docBytes(p, c.list[:i+1]...)) - len(docBytes(p, c.list[:i]...))
		}
		if c.at < 0 {
			wantDocAt(t, c.what, b, 0, api.OK)
			continue
		}
		wantDocAt(t, c.what, b, at, api.ErrPack)
		end := at + 14 + len(c.list[c.at].Edit.Ins)
		wantDocAt(t, c.what+", cut behind it", b[:end], at, api.ErrPack)
		for n := at; n < end; n += 1 + (end-at)/20 {
			wantDocAt(t, c.what+", cut within", b[:n], n, api.ErrCut)
		}
	}
}

// TestDocIns is P1804 of an Ins above MaxText: at its number, when that is read, ahead of all that is wrong with the version.
func TestDocIns(t *testing.T) {
	p := packed(t, nothing())
	for _, parent := range []int{0, 7} {
		b := docBytes(p, first("ab"), next(parent, 50, 60, long(api.MaxText+1)))
		at := 12 + 21 + 2 + 6 + 10
		wantDocAt(t, "an Ins of one more", b, at, api.ErrPack)
		wantDocAt(t, "an Ins of one more, cut behind its number", b[:at+4], at, api.ErrPack)
		wantDocAt(t, "an Ins of one more, cut within its number", b[:at+3], at+3, api.ErrCut)
	}
}

// chain is a language of lists of x, in which each x has so many nodes above it.
func chain(t testing.TB, nodes int) *engine.Engine {
	t.Helper()
	s := api.Spec{Lex: []api.LexRule{{Name: "x", Expr: span('x', 'x')}}, Names: []string{"L"}, Productions: []api.Production{makes(0, name(0), name(1)), makes(0)}}
	for i := range nodes {
		s.Names = append(s.Names, "N")
		p := makes(i+1, name(i+2))
		if i == nodes-1 {
			p.Right[0] = term(0)
		}
		s.Productions = append(s.Productions, p)
	}
	return compiled(t, s)
}

// TestDocFull is P1804: texts that have no tree, in the version 0 and in another one, and a document whose trees have too many rows together.
func TestDocFull(t *testing.T) {
	t.Parallel()
	e := chain(t, 20) // 22 rows for each x
	p := packed(t, e.Spec())
	full := strings.Repeat("x", api.MaxText)
	begin := 12 + len(p) + 2
	want := func(what string, b []byte, at int, err api.Errno) {
		t.Helper()
		if e, d, got, no := pack.ReadDoc(b); got != at || no != err || (e != nil) != (err == api.OK) || (d != nil) != (err == api.OK) {
			t.Errorf("P1804: %s: %d %v, not %d %v", what, got, no, at, err)
		}
	}
	want("no tree", docBytes(p, first(full)), begin, api.ErrPack)
	half := full[:api.MaxText/2]
	want("no tree behind an edit", docBytes(p, first(half), next(0, 0, 0, half)), begin+4+len(half), api.ErrPack)
	some := full[:170000] // 3740003 rows
	list := []api.Origin{first(some), next(0, 0, 0, ""), next(1, 0, 0, ""), next(2, 0, 0, ""), next(0, 0, 0, "")}
	want("five great trees, of which four have room", docBytes(p, list...), begin+4+len(some)+3*14, api.ErrPack)
}
