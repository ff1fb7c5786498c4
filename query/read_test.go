package query_test

import (
	"fmt"
	"math/rand"
	"slices"
	"strings"
	"testing"

	"graft/api"
	"graft/query"
	"graft/tree"
)

// wantFault holds of a text that it is refused so, that the model says the same, and that nothing stands beside the fault.
func wantFault(t *testing.T, s api.Spec, text string, err api.Errno, at int) {
	t.Helper()
	want := api.Fault{Err: err, At: at}
	if q, f := query.Parse(s, text); q != nil || f != want {
		t.Errorf("P1402: %.120q: %+v, not %+v", text, f, want)
	}
	if f := faultOf(s, text); f != want && len(text) < 500 {
		t.Errorf("P1402: %.120q: the model says %+v, not %+v", text, f, want)
	}
}

// wantPrint holds of a text that it is a query, and how that is printed.
func wantPrint(t *testing.T, s api.Spec, text, print string) {
	t.Helper()
	if q, f := query.Parse(s, text); q == nil || f != (api.Fault{}) {
		t.Errorf("P1402: %.120q: %+v", text, f)
	} else if got := q.Print(); got != print {
		t.Errorf("P1403: %.120q: %.120q, not %.120q", text, got, print)
	}
	if f := faultOf(s, text); f != (api.Fault{}) && len(text) < 500 {
		t.Errorf("P1402: %.120q: the model says %+v", text, f)
	}
}

// TestFaults is P1402: each fault at its place, also where two hold at once.
func TestFaults(t *testing.T) {
	s := readSpec(t, ten)
	for _, c := range []struct {
		text string
		err  api.Errno
		at   int
	}{
		// The chapter's fifth example.
		{"(X)", api.ErrQueryName, 1}, {"ws", api.ErrQueryName, 0}, {"(L", api.ErrQuery, 2}, {"num @", api.ErrQuery, 5}, {"(E num @a num @a)", api.ErrCapture, 14}, {"", api.ErrQuery, 0},
		// Texts that end too early.
		{" \t\r\n", api.ErrQuery, 4}, {"(", api.ErrQuery, 1}, {"( ", api.ErrQuery, 2}, {"(L ", api.ErrQuery, 3}, {"(L .", api.ErrQuery, 4}, {"(L ~", api.ErrQuery, 4}, {"(L . ~ ", api.ErrQuery, 7}, {"(L num", api.ErrQuery, 6}, {"num =", api.ErrQuery, 5}, {"num ^ ", api.ErrQuery, 6}, {"num - ", api.ErrQuery, 6}, {`num = "`, api.ErrQuery, 7}, {`num = "a`, api.ErrQuery, 8}, {`"num`, api.ErrQuery, 4}, {`("L`, api.ErrQuery, 3}, {"(L (S (E", api.ErrQuery, 8}, {"(L (S) ", api.ErrQuery, 7}, {"(L (S) .", api.ErrQuery, 8}, {"(_ num @a", api.ErrQuery, 9},
		// Bytes that may not stand there.
		{")", api.ErrQuery, 0}, {"num)", api.ErrQuery, 3}, {"(L))", api.ErrQuery, 3}, {".", api.ErrQuery, 0}, {"~", api.ErrQuery, 0}, {"num . num", api.ErrQuery, 4}, {"num ~ num", api.ErrQuery, 4}, {"num .", api.ErrQuery, 4}, {"=", api.ErrQuery, 0}, {`= "a"`, api.ErrQuery, 0}, {"@a", api.ErrQuery, 0}, {"num , num", api.ErrQuery, 4}, {"1", api.ErrQuery, 0}, {"num 1", api.ErrQuery, 4},
		{"()", api.ErrQuery, 1}, {"((L))", api.ErrQuery, 1}, {"($)", api.ErrQuery, 1}, {"(. num)", api.ErrQuery, 1}, {"(~ num)", api.ErrQuery, 1}, {"(= num)", api.ErrQuery, 1}, {"(@a)", api.ErrQuery, 1}, {`(L = "a")`, api.ErrQuery, 3}, {"(L @a)", api.ErrQuery, 3}, {"(_ @a)", api.ErrQuery, 3}, {"(! ^", api.ErrQuery, 3},
		{"(L . . num)", api.ErrQuery, 5}, {"(L . .)", api.ErrQuery, 5}, {"(L ~ ~ num)", api.ErrQuery, 5}, {"(L ~ . num)", api.ErrQuery, 5}, {"(L ~)", api.ErrQuery, 4}, {"(L . ~)", api.ErrQuery, 6}, {"(L . @a)", api.ErrQuery, 5}, {`(L ~ = "a")`, api.ErrQuery, 5}, {"(L num . ~ .)", api.ErrQuery, 11}, {"(L num . ) .", api.ErrQuery, 11},
		{"num = a", api.ErrQuery, 6}, {"num = num", api.ErrQuery, 6}, {"num = _", api.ErrQuery, 6}, {"num == \"a\"", api.ErrQuery, 5}, {"num =^\"a\"", api.ErrQuery, 5}, {"num = (L)", api.ErrQuery, 6}, {"num = @a", api.ErrQuery, 6}, {"num ^ )", api.ErrQuery, 6},
		{"num @a = \"a\"", api.ErrQuery, 7}, {"num @a ^ \"a\"", api.ErrQuery, 7}, {"num @a @b", api.ErrQuery, 7}, {"num @a @a", api.ErrQuery, 7}, {"num @@a", api.ErrQuery, 5}, {"num @1", api.ErrQuery, 5}, {"num @_", api.ErrQuery, 5}, {"num @_a", api.ErrQuery, 5}, {`num @"a"`, api.ErrQuery, 5}, {"num @ a", api.ErrQuery, 5}, {"num @\ta", api.ErrQuery, 5}, {"num @)", api.ErrQuery, 5}, {"num @a-b", api.ErrQuery, 6}, {"num @a.", api.ErrQuery, 6},
		{"num \x00", api.ErrQuery, 4}, {"num \x80", api.ErrQuery, 4}, {"num\xff", api.ErrQuery, 3}, {"num \v num", api.ErrQuery, 4}, {"num \f num", api.ErrQuery, 4}, {"num\u00a0num", api.ErrQuery, 3}, {"n\u00fcm", api.ErrQueryName, 0},
		// Strings: at the bad byte, in escapes at the backslash; a text that ends there at its length.
		{"num = \"a\nb\"", api.ErrQuery, 8}, {"num = \"\x7f\"", api.ErrQuery, 7}, {"num = \"\xc3\xbc\"", api.ErrQuery, 7}, {`num = "\q"`, api.ErrQuery, 7}, {`num = "\ "`, api.ErrQuery, 7}, {`num = "\n"`, api.ErrQuery, 7}, {`num = "\X41"`, api.ErrQuery, 7}, {`num = "ab\x4"`, api.ErrQuery, 9}, {`num = "\x"`, api.ErrQuery, 7}, {`num = "\xg1"`, api.ErrQuery, 7}, {`num = "\x1g"`, api.ErrQuery, 7}, {`num = "\x 1"`, api.ErrQuery, 7}, {"num = \"\\\n\"", api.ErrQuery, 7}, {"num = \"\\x4\n\"", api.ErrQuery, 7}, {`num = "\`, api.ErrQuery, 8}, {`num = "\x`, api.ErrQuery, 9}, {`num = "\x4`, api.ErrQuery, 10}, {`num = "\x41`, api.ErrQuery, 11}, {`num = "\"`, api.ErrQuery, 9}, {`"\q"`, api.ErrQuery, 1}, {`("ab\q")`, api.ErrQuery, 4},
		// Names.
		{"num L", api.ErrQueryName, 4}, {"L", api.ErrQueryName, 0}, {"(num)", api.ErrQueryName, 1}, {"( num)", api.ErrQueryName, 2}, {"(ws)", api.ErrQueryName, 1}, {`"ws"`, api.ErrQueryName, 0}, {`(L "ws")`, api.ErrQueryName, 3}, {"(L ~ (X))", api.ErrQueryName, 6}, {`""`, api.ErrQueryName, 0}, {`("")`, api.ErrQueryName, 1}, {"error", api.ErrQueryName, 0}, {"end", api.ErrQueryName, 0}, {"Num", api.ErrQueryName, 0}, {"numplus", api.ErrQueryName, 0}, {"num1", api.ErrQueryName, 0}, {"num_", api.ErrQueryName, 0}, {"(LS)", api.ErrQueryName, 1}, {"(L_)", api.ErrQueryName, 1}, {`"num "`, api.ErrQueryName, 0}, {`"_"`, api.ErrQueryName, 0}, {`"!"`, api.ErrQueryName, 0}, {`("_")`, api.ErrQueryName, 1},
		// Two at once: the first from the left.
		{"X )", api.ErrQueryName, 0}, {"(X", api.ErrQueryName, 1}, {"X\x00", api.ErrQueryName, 0}, {"(X\x00", api.ErrQueryName, 1}, {") X", api.ErrQuery, 0}, {"X Y", api.ErrQueryName, 0}, {`"X\q"`, api.ErrQuery, 2}, {`"X`, api.ErrQuery, 2}, {"num = X", api.ErrQuery, 6}, {`X = "`, api.ErrQueryName, 0}, {"X @", api.ErrQueryName, 0}, {"(_ num @a num @a", api.ErrCapture, 14}, {"(_ num @a num @a X)", api.ErrCapture, 14}, {"(_ num @a X @a)", api.ErrQueryName, 10}, {"(_ num @a num @a @a)", api.ErrCapture, 14}, {"(_ num @a num @)", api.ErrQuery, 15}, {"(_ num @a num @a\x00", api.ErrCapture, 14}, {"(L X $ )", api.ErrQueryName, 3}, {"(L $ @x X)", api.ErrQueryName, 8},
	} {
		wantFault(t, s, c.text, c.err, c.at)
	}
}

// TestLongTexts is P1402's bound: MaxQuery bytes and one more, whatever they are.
func TestLongTexts(t *testing.T) {
	s := readSpec(t, ten)
	for _, c := range []struct{ begin, fill, end string }{{"num", " ", ""}, {"", "\n", "num"}, {"num = \"", "a", "\""}, {"_ @", "a", ""}, {"num", " num", ""}, {"(_", " _", ")"}, {"", "_", ""}} {
		for over := range 3 {
			size := api.MaxQuery + over
			text := c.begin + strings.Repeat(c.fill, (size-len(c.begin)-len(c.end))/len(c.fill)) + c.end
			text += strings.Repeat(" ", size-len(text))
			q, f := query.Parse(s, text)
			if want := (api.Fault{Err: api.ErrLong}); over > 0 && (q != nil || f != want) || over == 0 && (q == nil || f != (api.Fault{})) {
				t.Errorf("P1402: %d bytes: %.20q: %+v", len(text), text, f)
			}
		}
	}
	wantFault(t, s, strings.Repeat("\x00", api.MaxQuery), api.ErrQuery, 0)
	wantFault(t, s, strings.Repeat("\x00", api.MaxQuery+1), api.ErrLong, 0)
	wantFault(t, s, strings.Repeat(" ", api.MaxQuery), api.ErrQuery, api.MaxQuery)
	wantFault(t, s, "X"+strings.Repeat(" ", api.MaxQuery), api.ErrLong, 0)
	wantFault(t, s, strings.Repeat("(_ ", 2000), api.ErrLong, 0)
	wantFault(t, s, strings.Repeat("_", 1<<20), api.ErrLong, 0)
}

// TestNests is P1402's other bound: MaxNest brackets open and one more.
func TestNests(t *testing.T) {
	s := readSpec(t, ten)
	open, shut := strings.Repeat("(_ ", api.MaxNest), strings.Repeat(")", api.MaxNest)
	whole := strings.TrimSuffix(open, " ") + shut
	wantPrint(t, s, whole, whole)
	wantPrint(t, s, open+"num"+shut, open+"num"+shut)
	wantPrint(t, s, open+shut+open+shut, whole+" "+whole)
	wantFault(t, s, open+"(_"+shut+")", api.ErrNest, 192)
	wantFault(t, s, open+"~ . (_", api.ErrQuery, 194)
	wantFault(t, s, open+". ~ (", api.ErrNest, 196)
	wantFault(t, s, open, api.ErrQuery, 192)
	wantFault(t, s, open+"num = (_)", api.ErrQuery, 198)
	wantFault(t, s, open+"X (_)", api.ErrQueryName, 192)
	wantFault(t, s, open+"(X)", api.ErrNest, 192)
	wantFault(t, s, open+") (_)"+shut, api.ErrQuery, 192+5+api.MaxNest-1)
	// Brackets that are closed again do not count.
	many := "(_" + strings.Repeat(" (_)", 500) + ")"
	wantPrint(t, s, many, many)
	most := strings.Repeat("(_ ", api.MaxNest-1)
	wantFault(t, s, most+"(_) (_ (_))", api.ErrNest, 3*(api.MaxNest-1)+7)
}

// TestBlanks is P1401: blanks of each kind wherever they may stand; and other bytes, at all places.
func TestBlanks(t *testing.T) {
	t.Parallel()
	s := readSpec(t, ten)
	tokens := []string{"(", "L", ".", "(", "_", ")", "@b1", "~", "num", "=", `"a b"`, "^", `""`, "@x", ".", ")", "-", `"c"`, "_", "!", "@d_", "$", `"plus"`, "semi", "@b1"}
	const print = `(L . (_) @b1 ~ num = "a b" ^ "" @x .) - "c" _ ! @d_ $ plus semi @b1`
	tight, gaps := "", []int{}
	for i, x := range tokens {
		if i > 0 && apart(tokens[i-1], x) {
			tight += " "
		}
		gaps = append(gaps, len(tight))
		tight += x
	}
	gaps = append(gaps, len(tight))
	wantPrint(t, s, tight, print)
	for _, blanks := range []string{" ", "\t", "\n", "\r", "\r\n", " \t\n\r ", "     "} {
		all := ""
		for i, x := range tokens {
			all += blanks + x
			text := tight[:gaps[i]] + blanks + tight[gaps[i]:]
			wantPrint(t, s, text, print)
		}
		wantPrint(t, s, tight+blanks, print)
		wantPrint(t, s, all+blanks, print)
	}
	for at := range len(tight) + 1 {
		for c := range 256 {
			text := tight[:at] + string([]byte{byte(c)}) + tight[at:]
			q, f := query.Parse(s, text)
			if want := faultOf(s, text); f != want || (q == nil) != (f.Err != api.OK) {
				t.Errorf("P1402: %q: %+v, not %+v", text, f, want)
			}
			blank := strings.IndexByte(" \t\n\r", byte(c)) >= 0
			if q != nil && blank && !slices.Contains(gaps, at) && q.Print() == print {
				t.Errorf("P1401: %q is %q", text, print)
			}
		}
	}
}

// TestTokensCut is P1402 of a text cut short at each byte.
func TestTokensCut(t *testing.T) {
	s := readSpec(t, ten)
	for _, text := range []string{`(L . ~ (S "semi" @a) @b (E ~ _ = "\x41\"\\\xfFz" ^ "" .) - " " @c .) num @a`, `"\x6eum"^"\\"`, ` ( "\x4C" .) ! $ _ `} {
		wantPrint(t, s, text, parsed(t, s, text).Print())
		for cut := range len(text) {
			if want, f := faultOf(s, text[:cut]), fault(s, text[:cut]); f != want {
				t.Errorf("P1402: %q: %+v, not %+v", text[:cut], f, want)
			}
		}
	}
}

func fault(s api.Spec, text string) api.Fault {
	_, f := query.Parse(s, text)
	return f
}

// TestWords is P1401: words by themselves, side by side, and what they are not.
func TestWords(t *testing.T) {
	s := api.Spec{Lex: []api.LexRule{{Name: "a"}, {Name: "aB9_"}, {Name: "ab"}, {Name: "_"}, {Name: "_a"}, {Name: "9"}, {Name: "a-b"}}, Names: []string{"a", "A_", "_", "9a", "Zz"}}
	for _, c := range []struct{ text, print string }{
		{"a ab", "a ab"}, {"ab", "ab"}, {"aB9_", "aB9_"}, {"_a", "_ a"}, {"_a_", ""}, {"__", "_ _"}, {"a _", "a _"}, {"(_a)", "(_ a)"}, {"(A_ _)", "(A_ _)"}, {"(A_)", "(A_)"}, {"(Zz)a", "(Zz) a"}, {"!a", "! a"}, {"$a!ab$", "$ a ! ab $"}, {"a(a)a", "a (a) a"}, {"_@a_ _", "_ @a_ _"}, {"_@Z9z_0@", ""}, {"a\"a\"\"ab\"a", "a a ab a"}, {`"_" "_a" "9" "a-b"`, `"_" "_a" "9" "a-b"`}, {`("_") ("9a")`, `("_") ("9a")`}, {`"a"_`, "a _"}, {`"\x61"`, "a"}, {"a.b", ""}, {"aB9", ""}, {"9", ""}, {"a-b", ""}, {"(9a)", ""},
	} {
		if c.print == "" {
			if f := fault(s, c.text); f != faultOf(s, c.text) || f.Err == api.OK {
				t.Errorf("P1401: %q: %+v", c.text, f)
			}
		} else {
			wantPrint(t, s, c.text, c.print)
		}
	}
}

// TestStrings is P1401: every byte in a string, plain, escaped and wrong, as a check's text and as a name.
func TestStrings(t *testing.T) {
	for c := range 256 {
		b := string([]byte{byte(c)})
		s := api.Spec{Lex: []api.LexRule{{Name: "k"}, {Name: "x" + b + "y"}}, Names: []string{b}}
		shown := fmt.Sprintf(`\x%02x`, c)
		switch {
		case b == `"` || b == `\`:
			shown = `\` + b
			wantPrint(t, s, `k = "x\`+b+`y"`, `k = "x`+shown+`y"`)
		case c >= 32 && c <= 126:
			shown = b
			wantPrint(t, s, `k = "x`+b+`y"`, `k = "x`+shown+`y"`)
		default:
			wantFault(t, s, `k = "x`+b+`y"`, api.ErrQuery, 6)
			wantFault(t, s, `"x`+b+`y"`, api.ErrQuery, 2)
		}
		if !strings.Contains(`"\`, b) {
			wantFault(t, s, `k = "x\`+b+`y"`, api.ErrQuery, 6)
		}
		for _, form := range []string{`\x%02x`, `\x%02X`} {
			wantEscape(t, s, b, shown, fmt.Sprintf(form, c))
		}
	}
}

// wantEscape holds of an escape of a byte that it is read, and printed as it is shown, in checks and in names; and that it may not be cut short.
func wantEscape(t *testing.T, s api.Spec, b, shown, escaped string) {
	t.Helper()
	wantPrint(t, s, `k = "`+escaped+`"`, `k = "`+shown+`"`)
	wantPrint(t, s, `k ^ "x`+escaped+escaped+`y"`, `k ^ "x`+shown+shown+`y"`)
	rule, name := `"x`+shown+`y"`, `"`+shown+`"`
	if isWord("x" + b) {
		rule = "x" + b + "y"
	}
	if isWord(b) {
		name = b
	}
	wantPrint(t, s, `"x`+escaped+`y"@z("`+escaped+`".)`, rule+` @z (`+name+` .)`)
	for cut := range len(escaped) {
		text := `k = "x` + escaped[:cut]
		wantFault(t, s, text, api.ErrQuery, len(text))
		if cut > 1 {
			wantFault(t, s, text+`"`, api.ErrQuery, 6)
			wantFault(t, s, text+`g"`, api.ErrQuery, 6)
		}
	}
}

// TestDigits is P1401: each byte as a digit of an escape.
func TestDigits(t *testing.T) {
	s := readSpec(t, ten)
	for c := range 256 {
		b := string([]byte{byte(c)})
		isDigit := strings.Contains("0123456789abcdefABCDEF", b)
		for _, x := range []struct{ ahead, behind string }{{"", "1"}, {"1", ""}} {
			text := `_ = "` + `\x` + x.ahead + b + x.behind + `"`
			if !isDigit {
				wantFault(t, s, text, api.ErrQuery, 5)
				continue
			}
			var n byte
			fmt.Sscanf(x.ahead+b+x.behind, "%x", &n)
			wantPrint(t, s, text, "_ = "+inQuotes(string([]byte{n})))
		}
	}
}

// TestNamesOfSpecs is P1402: names that stand twice, that are empty, that are trivia's, productions whose Left is any; and nothing else of the spec is looked at.
func TestNamesOfSpecs(t *testing.T) {
	wrong := api.Expr{Kind: 77, List: []api.Expr{{}, {}}}
	s := api.Spec{
		Lex:         []api.LexRule{{Name: "t", Trivia: true, Expr: wrong}, {Name: "a", Trivia: true}, {Name: "a"}, {Name: "a"}, {Name: ""}, {Name: "both"}, {Name: "", Trivia: true}, {Name: "odd name\x00"}},
		Names:       []string{"A", "", "A", "both", "t", "odd name\x00"},
		Start:       -7,
		Productions: []api.Production{{Left: 0}, {Left: 2, Right: []api.Sym{{Kind: 9, N: -9}}}, {Left: 1}, {Left: -1}, {Left: 99}, {Left: 3}, {Left: 4}, {Left: 5}, {Left: 0}, {Left: -1 << 62}},
	}
	for _, c := range []struct {
		text string
		err  api.Errno
		at   int
	}{{"t", api.ErrQueryName, 0}, {"(a)", api.ErrQueryName, 1}, {"A", api.ErrQueryName, 0}, {"(L)", api.ErrQueryName, 1}, {`"odd name"`, api.ErrQueryName, 0}} {
		wantFault(t, s, c.text, c.err, c.at)
	}
	st := tree.New()
	var kids []*tree.Node
	for i := range 10 {
		n, _ := st.Make(api.NInner, i)
		kids = append(kids, st.Leaf(api.Leaf{Kind: i - 2}), n)
	}
	root, _ := st.Make(api.NError, 0, kids...)
	for _, c := range []struct {
		text  string
		which []int // children of the root
	}{
		{"a", []int{8}}, {`""`, []int{12}}, {"both", []int{14}}, {`"odd name\x00"`, []int{18}}, {"!", []int{2}}, {"$", []int{0}},
		{"(A)", []int{1, 17}}, {`("")`, []int{5}}, {"(both)", []int{11}}, {"(t)", []int{13}}, {`("odd name\x00")`, []int{15}}, {"(!)", []int{-1}},
	} {
		var got []int
		seq, _ := parsed(t, s, c.text+" @x").Match(root, nil)
		for m := range seq {
			got = append(got, append(m.Caps[0].Path, -1)[0])
		}
		if !slices.Equal(got, c.which) {
			t.Errorf("P1404: %q: %v, not %v", c.text, got, c.which)
		}
	}
	// A spec with nothing in it.
	wantPrint(t, api.Spec{}, "_ ! $ (_) (!)", "_ ! $ (_) (!)")
	wantFault(t, api.Spec{}, `""`, api.ErrQueryName, 0)
	wantFault(t, api.Spec{}, "a", api.ErrQueryName, 0)
	wantFault(t, api.Spec{}, "(a)", api.ErrQueryName, 1)
}

// TestBigSpecs is P1402: no bound of specs is asked for.
func TestBigSpecs(t *testing.T) {
	s := api.Spec{Lex: make([]api.LexRule, 1000), Names: make([]string, 1000), Productions: make([]api.Production, 5000)}
	for i := range 1000 {
		s.Lex[i].Name, s.Names[i] = fmt.Sprintf("t%d", i), strings.Repeat("n", i)+"m"
	}
	wantPrint(t, s, "t999 (nnnm)", "t999 (nnnm)")
	long := strings.Repeat("n", 999) + "m"
	wantPrint(t, s, "("+long+") @"+long, "("+long+") @"+long)
}

// TestCaptures is P1402: captures that stand twice in one pattern of the query, at any depth, and in two of its patterns.
func TestCaptures(t *testing.T) {
	s := readSpec(t, ten)
	for _, c := range []struct {
		text string
		at   int // -1: it is right
	}{
		{"num @a num @a", -1}, {"(_ num @a) (_ num @a) @b num @b _ @b", -1}, {"(_ num @a plus @b) @c", -1}, {"(_ num @a plus @A)", -1}, {"(_ num @a (_ plus @aa)) @aaa", -1},
		{"(_ num @a) @a", 11}, {"(_ (_ (_ num @a))) @a", 19}, {"(_ (_ (_ num @a) @a))", 17}, {"(_ (_ num @a) (_ num @a))", 21}, {"(_ ~ num @x . ~ _ @x .)", 18}, {"num @a (_ num @a num @a)", 21}, {"(_ num @a num @b) @b", 18}, {"(_ num @a num @b num @c num @b)", 28},
	} {
		if c.at < 0 {
			wantPrint(t, s, c.text, c.text)
			continue
		}
		wantFault(t, s, c.text, api.ErrCapture, c.at)
	}
}

// TestRandomTexts is P1402 against the model: right texts with something changed, and tokens in any order.
func TestRandomTexts(t *testing.T) {
	t.Parallel()
	s := readSpec(t, ten)
	r := rand.New(rand.NewSource(1402))
	some := []string{"(", ")", "_", "!", "$", ".", "~", "=", "^", "-", "@", "@a", "@b", "num", "L", "S", "X", "ws", `"num"`, `"L"`, `"\x4c"`, `""`, `"\q"`, `"`, `\`, "a", "1", " ", "\n", "\x00", "#"}
	met := map[api.Errno]int{}
	for range 30000 {
		var text string
		switch r.Intn(3) {
		case 0:
			for range r.Intn(12) {
				text += some[r.Intn(len(some))] + strings.Repeat(" ", r.Intn(2))
			}
		default:
			g := &guesser{r: r, s: s, words: true}
			text = joined(r, allTokens(r, g.query()))
			for range r.Intn(3) {
				at := r.Intn(len(text) + 1)
				to := min(len(text), at+r.Intn(3))
				text = text[:at] + some[r.Intn(len(some))] + text[to:]
			}
		}
		if len(text) > 150 {
			continue
		}
		want, f := faultOf(s, text), fault(s, text)
		if f != want {
			t.Fatalf("P1402: %q: %+v, not %+v", text, f, want)
		}
		met[want.Err]++
	}
	for _, e := range []api.Errno{api.OK, api.ErrQuery, api.ErrQueryName, api.ErrCapture} {
		if met[e] < 200 {
			t.Errorf("too few texts: %v: %d", e, met[e])
		}
	}
}
