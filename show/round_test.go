package show_test

import (
	"slices"
	"strings"
	"testing"

	"triglyph/api"
	"triglyph/layout"
	"triglyph/parse"
	"triglyph/show"
	"triglyph/tree"
)

// compare compares what Doc, Show and Flat return for an expression with the model, and what is parsed again with
// the expression.
func compare(t *testing.T, l nodes, fixes []api.Fix, widths ...int) {
	t.Helper()
	x, _ := read(l)
	want := model(fixes).doc(x)
	doc, e := show.Doc(l, fixes)
	if !slices.Equal(doc, want) || e != api.OK {
		t.Fatalf("Doc(%v, %v): %s, %d; not %s", l, fixes, notation(doc), e, notation(want))
	}
	s, e := show.Flat(l, fixes)
	if flat, f := layout.Flat(want); s != flat || e != f {
		t.Fatalf("Flat(%v, %v): %q, %d; not %q, %d", l, fixes, s, e, flat, f)
	}
	if e == api.OK {
		again(t, s, l, fixes)
	}
	for _, width := range widths {
		s, e := show.Show(l, fixes, width)
		if out, f := layout.Layout(want, width); s != out || e != f {
			t.Fatalf("Show(%v, %v, %d): %q, %d; not %q, %d", l, fixes, width, s, e, out, f)
		}
		if e == api.OK {
			again(t, s, l, fixes)
		}
	}
}

// again parses the text s of l (P8.2).
func again(t *testing.T, s string, l nodes, fixes []api.Fix) {
	t.Helper()
	got, at, e := parse.Parse(s, fixes)
	if !slices.Equal(got, l) || e != api.OK {
		t.Fatalf("%q is parsed as %v, %d at %d; not as %v", s, got, e, at, l)
	}
}

// P8.1, P8.2: all expressions of a few nodes.
func TestSmallExpressions(t *testing.T) {
	for _, row := range small(7) {
		for _, l := range row {
			compare(t, l, fixes(), 1, 8)
		}
	}
}

// P8.1, P8.2: all expressions of up to three operators of fixities that differ in Level and Side.
func TestRows(t *testing.T) {
	some := []api.Fix{{Op: "+", Level: 6, Side: -1}, {Op: "-", Level: 6, Side: -1}, {Op: "^", Level: 6, Side: 0}, {Op: "&", Level: 6, Side: 1}, {Op: "@", Level: 6, Side: 1}, {Op: "<", Level: 0, Side: -1}, {Op: "::", Level: 9, Side: 1}}
	for n := range 4 {
		for _, l := range rows(n, some) {
			compare(t, l, some, 1, 9)
		}
	}
}

// P8.1: what is in parentheses in a row of two operators, of all Levels and Sides, is what would else be another
// expression, or none.
func TestParenthesesInRows(t *testing.T) {
	for i := range 30 {
		for j := range 30 {
			some := []api.Fix{{Op: "+", Level: i / 3, Side: i%3 - 1}, {Op: "-", Level: j / 3, Side: j%3 - 1}}
			sum := func(op string, a, b nodes) nodes { return applied(v(op), a, b) }
			for _, x := range []struct {
				l             nodes
				short, closed string
			}{
				{sum("+", sum("-", v("a"), v("b")), v("c")), "a - b + c", "(a - b) + c"},
				{sum("-", v("a"), sum("+", v("b"), v("c"))), "a - b + c", "a - (b + c)"},
				{sum("+", sum("+", v("a"), v("b")), v("c")), "a + b + c", "(a + b) + c"},
				{sum("+", v("a"), sum("+", v("b"), v("c"))), "a + b + c", "a + (b + c)"},
			} {
				want := x.closed
				if l, _, e := parse.Parse(x.short, some); e == api.OK && slices.Equal(l, x.l) {
					want = x.short
				}
				if s, e := show.Flat(x.l, some); s != want || e != api.OK {
					t.Errorf("%v: %q, %d; not %q", some, s, e, want)
				}
			}
		}
	}
}

// P8.1: an expression of each kind at each place at which one may stand.
func TestPlaces(t *testing.T) {
	texts := []string{"x", "7", `"a"`, "A", "(+)", "f x", "(%) x y", "a + b", "a :: b", "fun x -> y", "let x = y in z", "let rec f = fun x -> y in z", "if x then y else z", "raise x", "try x with e -> y", "match x with A -> y end"}
	for _, s := range texts {
		l := parsed(t, s)
		for _, r := range texts {
			k := parsed(t, r)
			for _, x := range []nodes{
				applied(l, k), applied(v("f"), l, k), applied(l, k, l), applied(v("+"), l, k), applied(v("::"), l, k), applied(v("<"), l, k), applied(v("%"), l, k), made(api.ExpFun, "x", l), made(api.ExpLet, "x", l, k), made(api.ExpRec, "f", made(api.ExpFun, "x", l), k), made(api.ExpIf, "", l, k, v("z")), made(api.ExpIf, "", v("z"), l, k), made(api.ExpRaise, "", l), made(api.ExpTry, "e", l, k), made(api.ExpMatch, "", l, made(api.PatAny, ""), k), made(api.ExpMatch, "", v("x"), made(api.PatAny, ""), l, made(api.PatCon, "A"), k),
			} {
				compare(t, x, fixes(), 1, 14, 20)
			}
		}
	}
}

// P8.1, P8.2: greater expressions, with fixities of all kinds, and many widths.
func TestGreaterExpressions(t *testing.T) {
	s := source(8)
	for range 3000 {
		compare(t, s.expression(1+s.below(8)), s.fixities(), 1, 1+s.below(20), 1+s.below(100), 1+s.below(1000), 1000)
	}
}

// P8.1: the text of patterns.
func TestGreaterPatterns(t *testing.T) {
	s := source(9)
	for range 20000 {
		names := 0
		p := s.pattern(1+s.below(6), &names)
		x, _ := read(p)
		if got, e := show.Pattern(p); got != modelPattern(x) || e != api.OK {
			t.Fatalf("Pattern(%v): %q, %d; not %q", p, got, e, modelPattern(x))
		}
	}
}

// P8.2: each byte of a text is shown so that it comes back, and numbers are.
func TestTextsAndNumbers(t *testing.T) {
	for b := range 256 {
		c := string([]byte{byte(b)})
		for _, s := range []string{c, c + c, "a" + c + "n", `\` + c, strings.Repeat(c, 200)} {
			compare(t, made(api.ExpText, s), nil, 1)
			compare(t, applied(v("f"), made(api.ExpText, s)), nil, 1)
		}
	}
	for _, n := range []int64{0, 1, -1, 9, 10, -10, 1 << 32, -1 << 32, api.MaxInt - 1, api.MaxInt, api.MinInt + 1, api.MinInt} {
		number := nodes{{Kind: api.ExpInt, Num: n}}
		compare(t, number, nil, 1)
		compare(t, applied(v("-"), number, number), fixes(), 1)
		compare(t, made(api.ExpMatch, "", number, nodes{{Kind: api.PatInt, Num: n}}, number), nil, 1)
	}
}

// P8.2: expressions as deep as they may be come back, since no parentheses are nested deeper than the nodes are.
func TestDeepExpressions(t *testing.T) {
	x, y := v("x"), v("y")
	for i, outer := range []func(l nodes) nodes{
		func(l nodes) nodes { return applied(x, l) },
		func(l nodes) nodes { return applied(l, x) },
		func(l nodes) nodes { return applied(v("+"), x, l) },
		func(l nodes) nodes { return applied(v("+"), l, x) },
		func(l nodes) nodes { return applied(v("::"), x, l) },
		func(l nodes) nodes { return applied(v("::"), l, x) },
		func(l nodes) nodes { return applied(v("%"), l, x) },
		func(l nodes) nodes { return applied(x, applied(v("+"), x, l)) },
		func(l nodes) nodes { return applied(applied(v("+"), l, x), y) },
		func(l nodes) nodes { return made(api.ExpRaise, "", l) },
		func(l nodes) nodes { return applied(x, made(api.ExpRaise, "", l)) },
		func(l nodes) nodes { return applied(made(api.ExpRaise, "", l), x) },
		func(l nodes) nodes { return made(api.ExpFun, "+", l) },
		func(l nodes) nodes { return made(api.ExpLet, "x", l, y) },
		func(l nodes) nodes { return made(api.ExpLet, "x", y, l) },
		func(l nodes) nodes { return made(api.ExpRec, "x", made(api.ExpFun, "y", l), y) },
		func(l nodes) nodes { return made(api.ExpIf, "", l, x, y) },
		func(l nodes) nodes { return made(api.ExpIf, "", x, y, l) },
		func(l nodes) nodes { return made(api.ExpTry, "e", l, x) },
		func(l nodes) nodes { return made(api.ExpTry, "e", x, l) },
		func(l nodes) nodes { return made(api.ExpMatch, "", l, made(api.PatAny, ""), x) },
		func(l nodes) nodes { return made(api.ExpMatch, "", x, made(api.PatAny, ""), l) },
		func(l nodes) nodes {
			return made(api.ExpMatch, "", x, made(api.PatAny, ""), y, made(api.PatAny, ""), l)
		},
	} {
		l := made(api.ExpText, "a")
		for tree.Deep(outer(l)) <= api.MaxDeep {
			l = outer(l)
		}
		for tree.Deep(l) < api.MaxDeep {
			l = made(api.ExpRaise, "", l)
		}
		compare(t, l, fixes(), 1, 80, 1000)
		if s, e := show.Flat(l, fixes()); s == "" || e != api.OK {
			t.Errorf("%d: %d", i, e)
		}
	}
	pattern := within(98, api.Node{Kind: api.PatCon, Text: "A"}, made(api.PatVar, "y"))
	compare(t, made(api.ExpMatch, "", x, pattern, y), fixes(), 1, 80, 1000)
}

// row returns n operators of one name in a row that goes on to the right, with these operands.
func row(n int, op string, operand nodes) nodes {
	l := operand
	for range n {
		l = applied(v(op), operand, l)
	}
	return l
}

// P8.2: what is shown comes back as long as it has no more tokens and no row more operators than may be parsed.
func TestWhatIsTooGreatToParse(t *testing.T) {
	// 2000 constructors in parentheses are 8000 tokens, and those without parentheses 4000.
	one := nodes{{Kind: api.PatCon, Text: "B", Kids: 1}, {Kind: api.PatAny}}
	wide := func(ones, others int) nodes {
		p := nodes{{Kind: api.PatCon, Text: "A", Kids: ones + others}}
		p = slices.Concat(p, slices.Repeat(one, ones), slices.Repeat(nodes{{Kind: api.PatAny}}, others))
		return made(api.ExpMatch, "", v("x"), p, v("y"))
	}
	for i, x := range []struct {
		l nodes
		e api.Errno
	}{
		// match x with A .. -> y end are 7 tokens.
		{wide(0, 3993), api.OK}, {wide(998, 1), api.OK}, {wide(998, 2), api.ErrLexMany}, {wide(1990, 0), api.ErrLexMany},
		// 40 operators between 41 rows of n operators that bind closer.
		{row(40, "::", row(8, "&", v("x"))), api.OK}, {row(39, "::", row(9, "&", v("x"))), api.OK}, {row(40, "::", row(9, "&", v("x"))), api.ErrParseClash},
	} {
		s, e := show.Flat(x.l, fixes())
		if e != api.OK {
			t.Errorf("%d: Flat: %d", i, e)
		}
		if got, at, e := parse.Parse(s, fixes()); e != x.e || (e == api.OK) != slices.Equal(got, x.l) {
			t.Errorf("%d: %.200q: %d at %d", i, s, e, at)
		}
	}
}
