package states_test

import (
	"reflect"
	"slices"
	"testing"
	"unsafe"

	"graft/api"
	"graft/states"
)

// roomy is a list's copy with spare room behind it, in which something stands.
func roomy[T any](l []T, spare T) []T {
	return append(slices.Clone(l), spare, spare, spare)[:len(l)]
}

// whole is a list with all its room.
func whole[T any](l []T) []T { return l[:cap(l)] }

// roomySpec is a spec all of whose lists have spare room.
func roomySpec(s api.Spec) api.Spec {
	s.Lex = roomy(s.Lex, api.LexRule{Name: "spare"})
	for i, rule := range s.Lex {
		s.Lex[i].Expr = roomyExpr(rule.Expr)
	}
	s.Names = roomy(s.Names, "spare")
	s.Productions = roomy(s.Productions, makes(7, term(7)))
	for i, p := range s.Productions {
		s.Productions[i].Right = roomy(p.Right, term(9))
	}
	return s
}

func roomyExpr(e api.Expr) api.Expr {
	e.List = roomy(e.List, api.Expr{Kind: 77})
	for i, x := range e.List {
		e.List[i] = roomyExpr(x)
	}
	return e
}

// image is a copy of all that a spec holds, spare room too.
func image(s api.Spec) api.Spec {
	s.Lex, s.Names, s.Productions = slices.Clone(whole(s.Lex)), slices.Clone(whole(s.Names)), slices.Clone(whole(s.Productions))
	for i, rule := range s.Lex {
		s.Lex[i].Expr = imageExpr(rule.Expr)
	}
	for i, p := range s.Productions {
		s.Productions[i].Right = slices.Clone(whole(p.Right))
	}
	return s
}

func imageExpr(e api.Expr) api.Expr {
	e.List = slices.Clone(whole(e.List))
	for i, x := range e.List {
		e.List[i] = imageExpr(x)
	}
	return e
}

// plain is a copy of a spec without spare room, and with no list that is empty and not nil.
func plain(s api.Spec) api.Spec {
	s.Lex, s.Names, s.Productions = append([]api.LexRule(nil), s.Lex...), append([]string(nil), s.Names...), append([]api.Production(nil), s.Productions...)
	for i, rule := range s.Lex {
		s.Lex[i].Expr = plainExpr(rule.Expr)
	}
	for i, p := range s.Productions {
		s.Productions[i].Right = append([]api.Sym(nil), p.Right...)
	}
	return s
}

func plainExpr(e api.Expr) api.Expr {
	e.List = append([]api.Expr(nil), e.List...)
	for i, x := range e.List {
		e.List[i] = plainExpr(x)
	}
	return e
}

func sameSpec(a, b api.Spec) bool { return reflect.DeepEqual(plain(a), plain(b)) }

// spoil writes over a list with all its room.
func spoil[T any](l []T, with T) {
	for i := range whole(l) {
		whole(l)[i] = with
	}
}

func spoilExpr(e api.Expr) {
	for _, x := range e.List {
		spoilExpr(x)
	}
	spoil(e.List, api.Expr{Kind: 66, Min: 5})
}

// spoilSpec writes over all lists of a spec.
func spoilSpec(s api.Spec) {
	for _, rule := range s.Lex {
		spoilExpr(rule.Expr)
	}
	for _, p := range s.Productions {
		spoil(p.Right, name(2))
	}
	spoil(s.Lex, api.LexRule{Name: "spoilt", Trivia: true})
	spoil(s.Names, "spoilt")
	spoil(s.Productions, makes(1, term(1)))
}

// askAll asks all calls, and writes over what they answer.
func askAll(a *states.Automaton) {
	for n := -1; n <= a.Len(); n++ {
		spoil(a.Kernel(n), api.Item{Production: -7})
		spoil(a.Items(n), api.Item{Production: -7})
		spoil(a.Path(n), term(99))
		a.Symbol(n)
		a.Go(n, term(0))
	}
	for _, kernel := range a.All() {
		spoil(kernel, api.Item{Production: -7})
	}
	spoilSpec(a.Spec())
}

// TestSpec: the spec is told as it was handed in, each time anew.
func TestSpec(t *testing.T) {
	for _, s := range []api.Spec{ten(t), mixed(), long(1024)} {
		a := built(t, s)
		for range 3 {
			if got := a.Spec(); !sameSpec(got, s) {
				t.Errorf("P803: %+v, not %+v", got, s)
			}
		}
	}
}

// TestArguments: what is handed in stays as it was, in order or not.
func TestArguments(t *testing.T) {
	specs := []api.Spec{roomySpec(ten(t)), roomySpec(mixed()), roomySpec(long(1024)), roomySpec(long(1025))}
	for _, c := range turns() {
		s := ten(t)
		c.do(&s)
		specs = append(specs, roomySpec(s))
	}
	for i, s := range specs {
		before := image(s)
		if a, _ := states.Build(s); a != nil {
			askAll(a)
		}
		if !reflect.DeepEqual(image(s), before) {
			t.Errorf("P2: spec %d is %+v, not %+v", i, image(s), before)
		}
	}
	a := built(t, ten(t))
	for _, l := range [][]api.Sym{row(name(0), name(2), term(1)), row(term(0), term(0)), nil} {
		l = roomy(l, term(5))
		before := slices.Clone(whole(l))
		a.Run(l)
		if !slices.Equal(whole(l), before) {
			t.Errorf("P2: the row is %v, not %v", whole(l), before)
		}
	}
}

// shot is all that an automaton tells.
type shot struct {
	spec          api.Spec
	print         string
	items, kernel [][]api.Item
	paths         [][]api.Sym
}

func take(a *states.Automaton) shot {
	out := shot{spec: plain(a.Spec()), print: a.Print()}
	for n := range a.Len() {
		out.items = append(out.items, a.Items(n))
		out.kernel = append(out.kernel, a.Kernel(n))
		out.paths = append(out.paths, a.Path(n))
	}
	return out
}

// TestNotKept: to write over the spec that was handed in, or over what was told, changes nothing of the automaton.
func TestNotKept(t *testing.T) {
	for i, s := range []api.Spec{ten(t), mixed(), long(1024)} {
		want := take(built(t, s))
		own := roomySpec(s)
		a := built(t, own)
		spoilSpec(own)
		if got := take(a); !reflect.DeepEqual(got, want) {
			t.Errorf("P2: automaton %d hangs on its spec: %+v", i, got)
		}
		askAll(a)
		if got := take(a); !reflect.DeepEqual(got, want) {
			t.Errorf("P2: automaton %d hangs on what it told: %+v", i, got)
		}
	}
}

// TestApart: no two answers, and no two lists of one answer, share memory.
func TestApart(t *testing.T) {
	a := built(t, mixed())
	want := take(a)
	for n := range a.Len() {
		lists := [][]api.Item{a.Kernel(n), a.Kernel(n), a.Items(n), a.Items(n)}
		for i := range lists {
			spoil(lists[i], api.Item{Production: -7})
			for k := i + 1; k < len(lists); k++ {
				if rest := [][]api.Item{want.kernel[n], want.kernel[n], want.items[n], want.items[n]}; !slices.Equal(lists[k], rest[k]) {
					t.Errorf("P2: state %d: list %d shares with %d", n, k, i)
				}
			}
		}
		first, second := a.Path(n), a.Path(n)
		spoil(first, term(99))
		if !slices.Equal(second, want.paths[n]) {
			t.Errorf("P2: paths of %d share", n)
		}
	}
	var kernels [][]api.Item
	for _, kernel := range a.All() {
		kernels = append(kernels, kernel)
	}
	for n, kernel := range kernels {
		if !slices.Equal(kernel, want.kernel[n]) {
			t.Errorf("P2: kernel %d is %v", n, kernel)
		}
		spoil(kernel, api.Item{Production: -7})
	}
	first, second := a.Spec(), a.Spec()
	spoilSpec(first)
	if !sameSpec(second, want.spec) {
		t.Errorf("P2: specs share: %+v", second)
	}
}

// TestSharedLists: a list that hangs in a spec twice is told as two.
func TestSharedLists(t *testing.T) {
	s := ten(t)
	list := []api.Expr{{Kind: api.XRange, From: 1, To: 2}}
	twice := api.Expr{Kind: api.XSeq, List: []api.Expr{{Kind: api.XAlt, List: list}, {Kind: api.XAlt, List: list}}}
	s.Lex[0].Expr, s.Lex[1].Expr = twice, twice
	s.Productions = append(s.Productions, api.Production{Left: 1, Right: s.Productions[2].Right})
	a := built(t, s)
	got := a.Spec()
	spoilExpr(got.Lex[0].Expr.List[0])
	spoil(got.Productions[2].Right, term(9))
	if !reflect.DeepEqual(got.Lex[0].Expr.List[1].List, list) || !reflect.DeepEqual(got.Lex[1].Expr, twice) || !slices.Equal(got.Productions[7].Right, s.Productions[7].Right) {
		t.Errorf("P2: %+v", got)
	}
}

// TestOwnTexts: names are told in memory of their own too.
func TestOwnTexts(t *testing.T) {
	s := ten(t)
	a := built(t, s)
	seen := map[*byte]bool{}
	for _, x := range []api.Spec{s, a.Spec(), a.Spec()} {
		for _, rule := range x.Lex {
			x.Names = append(x.Names, rule.Name)
		}
		for _, text := range x.Names {
			if p := unsafe.StringData(text); seen[p] {
				t.Errorf("P2: %q is told twice in one memory", text)
			} else {
				seen[p] = true
			}
		}
	}
}

// nest is a pattern with values so deep in one another, the top one counted.
func nest(depth int) api.Expr {
	e := api.Expr{Kind: api.XRange, From: 7, To: 9}
	for range depth - 1 {
		e = api.Expr{Kind: api.XRepeat, Min: 1, Max: 1, List: []api.Expr{e}}
	}
	return e
}

// wide is a pattern with so many values.
func wide(count int) api.Expr {
	return api.Expr{Kind: api.XAlt, List: slices.Repeat([]api.Expr{{Kind: api.XRange, From: 3, To: 4}}, count-1)}
}

// endless holds itself.
func endless() api.Expr {
	list := make([]api.Expr, 2)
	list[0] = api.Expr{Kind: api.XSeq, List: list}
	list[1] = list[0]
	return list[0]
}

// doubled has few values in memory, but very many as they hang.
func doubled(depth int) api.Expr {
	e := api.Expr{Kind: api.XRange}
	for range depth - 1 {
		e = api.Expr{Kind: api.XSeq, List: []api.Expr{e, e}}
	}
	return e
}

// TestPatterns is P6 and P802: patterns are not looked at; those that are too great are told as nothing, all others as they are.
func TestPatterns(t *testing.T) {
	bushy := nest(63)
	bushy = api.Expr{Kind: api.XSeq, List: append([]api.Expr{bushy}, wide(4032).List...)} // 1 + 63 + 4031
	for _, c := range []struct {
		what  string
		e     api.Expr
		stays bool
	}{
		{"nothing", api.Expr{}, true},
		{"no pattern", api.Expr{Kind: 99, From: -5, To: 1000, Min: -1, Max: -9, List: []api.Expr{{Kind: -3}}}, true},
		{"what matches nothing", api.Expr{Kind: api.XSeq}, true},
		{"64 deep", nest(64), true},
		{"65 deep", nest(65), false},
		{"4096 values", wide(4096), true},
		{"4097 values", wide(4097), false},
		{"deep and wide", bushy, true},
		{"4095 values, 12 deep", doubled(12), true},
		{"8191 values, 13 deep", doubled(13), false},
		{"very many", doubled(60), false},
		{"without end", endless(), false},
		{"deeper than all", nest(100000), false},
		{"wider than all", wide(1000000), false},
	} {
		s := ten(t)
		s.Lex[1].Expr, s.Lex[3].Expr = c.e, c.e
		a := built(t, s)
		if a.Print() != tenPrinted {
			t.Errorf("P802: %s:\n%s", c.what, a.Print())
		}
		want := ten(t)
		if c.stays {
			want.Lex[1].Expr, want.Lex[3].Expr = c.e, c.e
		} else {
			want.Lex[1].Expr, want.Lex[3].Expr = api.Expr{}, api.Expr{}
		}
		if got := a.Spec(); !sameSpec(got, want) {
			t.Errorf("P6: %s: %+v", c.what, got.Lex)
		}
	}
}

// TestPatternsOfFaults: the greatest patterns change no fault.
func TestPatternsOfFaults(t *testing.T) {
	for i, c := range turns() {
		s := ten(t)
		for k := range s.Lex {
			s.Lex[k].Expr = endless()
		}
		c.do(&s)
		if a, f := states.Build(s); a != nil || f != c.want {
			t.Errorf("P6: turn %d: %v %+v, not %+v", i, a, f, c.want)
		}
	}
}
