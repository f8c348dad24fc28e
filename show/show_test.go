package show_test

import (
	"math"
	"slices"
	"strconv"
	"strings"
	"testing"

	"triglyph/api"
	"triglyph/show"
)

// notation tells a document: each text in quotes, each other node by its Kind, its kids in parentheses.
func notation(doc nodes) string {
	s, rest := notationOf(doc)
	if len(rest) > 0 {
		return s + " and more"
	}
	return s
}

func notationOf(doc nodes) (string, nodes) {
	n, rest := doc[0], doc[1:]
	var kids []string
	for range n.Kids {
		var kid string
		kid, rest = notationOf(rest)
		kids = append(kids, kid)
	}
	list := "(" + strings.Join(kids, " ") + ")"
	switch n {
	case api.Node{Kind: api.DocText, Text: n.Text}:
		return strconv.Quote(n.Text), rest
	case api.Node{Kind: api.DocLine}:
		return "line", rest
	case api.Node{Kind: api.DocNest, Num: 2, Kids: 1}:
		return "nest" + list, rest
	case api.Node{Kind: api.DocGroup, Kids: 1}:
		return "group" + list, rest
	case api.Node{Kind: api.DocCat, Kids: n.Kids}:
		return list, rest
	}
	return "what is not there" + list, rest
}

// P8.1: the document of each kind of expression.
func TestDoc(t *testing.T) {
	for _, x := range []struct{ s, want string }{
		{"7", `"7"`}, {"~7", `"~7"`}, {`"a \"b\n"`, `"\"a \\\"b\\n\""`}, {"x", `"x"`}, {"(+)", `"(+)"`}, {"(%)", `"(%)"`}, {"Nil", `"Nil"`},
		{"fun x -> y", `group(("fun x ->" nest((line "y"))))`},
		{"fun (+) -> y", `group(("fun (+) ->" nest((line "y"))))`},
		{"let x = y in z", `group(("let x =" nest((line "y")) line "in" line "z"))`},
		{"let (*) = y in z", `group(("let (*) =" nest((line "y")) line "in" line "z"))`},
		{"let rec f = fun x -> y in z", `group(("let rec f =" nest((line group(("fun x ->" nest((line "y")))))) line "in" line "z"))`},
		{"let rec (%) = fun x -> y in z", `group(("let rec (%) =" nest((line group(("fun x ->" nest((line "y")))))) line "in" line "z"))`},
		{"if x then y else z", `group(("if" nest((line "x")) line "then" nest((line "y")) line "else" nest((line "z"))))`},
		{"raise x", `group(("raise" nest((line "x"))))`},
		{"try x with e -> y", `group(("try" nest((line "x")) line "with e ->" nest((line "y"))))`},
		{"try x with (+) -> y", `group(("try" nest((line "x")) line "with (+) ->" nest((line "y"))))`},
		{"match x with A -> y end", `group(("match" nest((line "x")) line "with" nest((line "A ->" nest((line "y")))) line "end"))`},
		{"match x with A -> y | B z -> 1 end", `group(("match" nest((line "x")) line "with" nest((line "A ->" nest((line "y")))) line "| B z ->" nest((line "1")) line "end"))`},
		{"match x with A -> y | _ -> 1 | (+) -> 2 end", `group(("match" nest((line "x")) line "with" nest((line "A ->" nest((line "y")))) line "| _ ->" nest((line "1")) line "| (+) ->" nest((line "2")) line "end"))`},
		{"f x", `group(("f" nest((line "x"))))`},
		{"f x y", `group(("f" nest((line "x" line "y"))))`},
		{"f x 1 (+) A", `group(("f" nest((line "x" line "1" line "(+)" line "A"))))`},
		{"f (g x) y", `group(("f" nest((line ("(" group(("g" nest((line "x")))) ")") line "y"))))`},
		{"(raise x) y", `group((("(" group(("raise" nest((line "x")))) ")") nest((line "y"))))`},
		{"(x + y) z", `group((("(" group(("x" nest((line "+ " "y")))) ")") nest((line "z"))))`},
		{"(+) x", `group(("(+)" nest((line "x"))))`},
		{"(%) x y", `group(("(%)" nest((line "x" line "y"))))`},
		{"x + y", `group(("x" nest((line "+ " "y"))))`},
		{"(+) x y", `group(("x" nest((line "+ " "y"))))`},
		{"x + y * z", `group(("x" nest((line "+ " group(("y" nest((line "* " "z"))))))))`},
		{"(x + y) * z", `group((("(" group(("x" nest((line "+ " "y")))) ")") nest((line "* " "z"))))`},
		{"x + (raise y)", `group(("x" nest((line "+ " ("(" group(("raise" nest((line "y")))) ")")))))`},
		{"f x + 1", `group((group(("f" nest((line "x")))) nest((line "+ " "1"))))`},
	} {
		if doc, e := show.Doc(parsed(t, x.s), fixes()); notation(doc) != x.want || e != api.OK {
			t.Errorf("%q: %s, %d; not %s", x.s, notation(doc), e, x.want)
		}
	}
}

// P8.1: the text of expressions in one line. Each is written here as it is to be shown.
func TestFlat(t *testing.T) {
	for _, s := range []string{
		// Names, numbers and texts.
		"x", "f'_9Z", "(+)", "(%)", "(->>)", "Nil", "0", "7", "~1", "4611686018427387903", "~4611686018427387904", `""`, `"a b"`, `"\"\\\n\x00\xff\x7f~#"`,
		"fun x -> x", "fun (+) -> (+)", "fun x -> fun y -> x", "fun x -> x + y", "fun x -> f x", "let x = 1 in x", "let (::) = fun x -> x in let y = (::) 1 in y", "let x = let y = 1 in y in x", "let rec f = fun x -> f x in f", "let rec (+) = fun x -> x in x + x", "if a then b else c", "if if a then b else c then if a then b else c else if a then b else c", "raise 7", "raise raise x", "raise f x", "raise x + 1", "try f x with e -> e + 1", "try try a with x -> b with (+) -> c", "try a with x -> try b with y -> c",
		// Patterns in a match.
		"match x with _ -> 1 end", "match x with y -> y end", "match x with (+) -> (+) end", "match x with 0 -> 1 | ~1 -> 2 end", "match x with Nil -> 1 | Cons 1 _ -> 2 | Cons (Cons x Nil) (A ~1) -> 3 end", "match match x with _ -> 1 end with _ -> match x with _ -> 1 end | _ -> match x with _ -> 1 end end", "match x with _ -> fun x -> x | _ -> raise x | _ -> x + 1 | _ -> f x | _ -> try a with e -> b | _ -> let x = 1 in x | _ -> if a then b else c end", "match fun x -> x with _ -> 1 end", "match x + 1 with _ -> 1 end", "match try a with e -> b with _ -> 1 end",
		// Applications: what is in parentheses.
		"f x", "f x y z", "f 1 A \"a\" (+) (%)", "1 2", "A x", "\"a\" x", "(+) x", "f (g x)", "f (g x) (h y)", "f (x + y) z", "f (fun x -> x)", "f (let x = 1 in x) y", "f (let rec f = fun x -> x in f) y", "f (if a then b else c) y", "f (raise x) y", "f (try a with e -> b) y", "f match x with _ -> 1 end y", "(fun x -> x) 1", "(let x = f in x) 1 2", "(let rec f = fun x -> x in f) 1", "(if a then b else c) x", "(raise x) y", "(try a with e -> b) c", "match x with _ -> f end y", "(x + y) z", "(x + y) 1 2", "(%) x y", "(%) x", "(%) x y z", "(%) (%) (%)", "f ((%) x y)",
		// Rows: what is in parentheses.
		"x + y", "f x + g y", "(+) + (+)", "(+) x + (+) y", "x + 1 * y", "(x + 1) * y", "x * (y + 1)", "x * y + 1", "(fun x -> x) + (fun x -> x)", "(let x = 1 in x) + (let x = 1 in x)", "(let rec f = fun x -> x in f) + (let rec f = fun x -> x in f)", "(if a then b else c) + (if a then b else c)", "(raise x) + (raise x)", "(try a with e -> b) + (try a with e -> b)", "match x with _ -> 1 end + match x with _ -> 1 end", "\"a\" + ~1", "A + B", "f (fun x -> x) + 1", "(%) x y + (%) x y",
		// Chains of operators of one Level.
		"a + b + c", "a + (b + c)", "a + b - c", "a - (b + c)", "a :: b :: c", "(a :: b) :: c", "a :: b @ c", "(a :: b) @ c", "(a < b) < c", "a < (b < c)", "(a + b) & c", "a + (b & c)", "(a & b) + c", "a & (b + c)", "(a ^ b) + c", "a ^ (b + c)", "(a + b) ^ c", "a + (b ^ c)", "(a & b) ^ c", "a ^ (b & c)", "(a ^ b) & c", "a & (b ^ c)", "(a == b) == c", "a == b < c", "a ! b == c ! d", "a + b * c + d", "(a + b) * (c + d)", "a :: b + c :: d", "a < b :: c",
	} {
		if got, e := show.Flat(parsed(t, s), fixes()); got != s || e != api.OK {
			t.Errorf("Flat: %q, %d; not %q", got, e, s)
		}
		if got, e := show.Show(parsed(t, s), fixes(), api.MaxWidth); got != s || e != api.OK {
			t.Errorf("Show: %q, %d; not %q", got, e, s)
		}
	}
}

// P8.1: what has more parentheses than it needs is shown without them.
func TestFlatWithoutParentheses(t *testing.T) {
	for _, x := range []struct{ s, want string }{
		{"((x))", "x"}, {"((+))", "(+)"}, {"(f x) y", "f x y"}, {"((f x) (y)) (1)", "f x y 1"}, {"f (match x with (_) -> (1) end)", "f match x with _ -> 1 end"}, {"(match x with A -> f end) x", "match x with A -> f end x"},
		{"(+) a b", "a + b"}, {"(+) a b c", "(a + b) c"}, {"(+) a b c d", "(a + b) c d"}, {"((+) a) b", "a + b"}, {"(+) ((+) a b) c", "a + b + c"}, {"f ((+) a b)", "f (a + b)"},
		{"(a + b) + c", "a + b + c"}, {"a :: (b :: c)", "a :: b :: c"}, {"a :: (b @ (c :: d))", "a :: b @ c :: d"}, {"((a + b) - c) + d", "a + b - c + d"}, {"(a * b) + (c * d)", "a * b + c * d"}, {"(f x) + (g y)", "f x + g y"}, {"(x) + (1)", "x + 1"},
		{"fun x -> (fun y -> (x))", "fun x -> fun y -> x"}, {"fun x -> (x + 1)", "fun x -> x + 1"}, {"let x = (raise 1) in (fun y -> y)", "let x = raise 1 in fun y -> y"}, {"let rec f = (fun x -> x) in (f)", "let rec f = fun x -> x in f"}, {"if (raise a) then (raise b) else (raise c)", "if raise a then raise b else raise c"}, {"raise (raise x)", "raise raise x"}, {"try (try a with x -> b) with (+) -> (raise c)", "try try a with x -> b with (+) -> raise c"}, {"match (raise x) with (A) -> (raise 1) | (B (C) (1)) -> (x + 1) end", "match raise x with A -> raise 1 | B C 1 -> x + 1 end"},
		{" # nothing\n\"\\x61\\x0a\" ", `"a\n"`},
	} {
		if got, e := show.Flat(parsed(t, x.s), fixes()); got != x.want || e != api.OK {
			t.Errorf("%q: %q, %d; not %q", x.s, got, e, x.want)
		}
	}
}

// P8.1: an operator is shown in a row only if it has a fixity.
func TestFixities(t *testing.T) {
	sum := applied(v("+"), v("x"), applied(v("+"), v("y"), v("z")))
	for _, x := range []struct {
		fixes []api.Fix
		want  string
	}{
		{nil, "(+) x ((+) y z)"}, {[]api.Fix{}, "(+) x ((+) y z)"}, {[]api.Fix{{Op: "++"}, {Op: "-"}}, "(+) x ((+) y z)"}, {[]api.Fix{{Op: "+"}}, "x + (y + z)"}, {[]api.Fix{{Op: "+", Side: -1}}, "x + (y + z)"}, {[]api.Fix{{Op: "-"}, {Op: "+", Level: 9, Side: 1}}, "x + y + z"},
	} {
		if got, e := show.Flat(sum, x.fixes); got != x.want || e != api.OK {
			t.Errorf("%v: %q, %d; not %q", x.fixes, got, e, x.want)
		}
	}
	// What is no variable is no operator, and an operator of one part is applied.
	for _, x := range []struct {
		l    nodes
		want string
	}{
		{applied(v("+"), v("x")), "(+) x"}, {applied(applied(v("f"), v("+")), v("x")), "f (+) x"}, {applied(v("x"), applied(v("+"), v("x"))), "x ((+) x)"}, {applied(made(api.ExpText, "+"), v("x"), v("y")), `"+" x y`}, {applied(made(api.ExpRaise, "", v("+")), v("x"), v("y")), "(raise (+)) x y"}, {applied(v("x"), v("y"), v("z")), "x y z"},
	} {
		if got, e := show.Flat(x.l, []api.Fix{{Op: "+"}}); got != x.want || e != api.OK {
			t.Errorf("%q, %d; not %q", got, e, x.want)
		}
	}
}

// P8.1: lines of a width, from the least one to the greatest one at which a text is laid out like that.
func TestShow(t *testing.T) {
	for _, x := range []struct {
		s        string
		from, to int
		want     string
	}{
		{"x", 1, 1000, "x"}, {"long_name", 1, 1000, "long_name"}, {`"a b"`, 1, 1000, `"a b"`}, {"~7", 1, 1000, "~7"}, {"(+)", 1, 1000, "(+)"},
		{"fun x -> y", 10, 1000, "fun x -> y"}, {"fun x -> y", 1, 9, "fun x ->\n  y"},
		{"let x = y in z", 14, 1000, "let x = y in z"}, {"let x = y in z", 1, 13, "let x =\n  y\nin\nz"},
		{"let rec f = fun x -> y in z", 27, 1000, "let rec f = fun x -> y in z"}, {"let rec f = fun x -> y in z", 12, 26, "let rec f =\n  fun x -> y\nin\nz"}, {"let rec f = fun x -> y in z", 1, 11, "let rec f =\n  fun x ->\n    y\nin\nz"},
		{"if x then y else z", 18, 1000, "if x then y else z"}, {"if x then y else z", 1, 17, "if\n  x\nthen\n  y\nelse\n  z"},
		{"raise x", 7, 1000, "raise x"}, {"raise x", 1, 6, "raise\n  x"},
		{"try x with e -> y", 17, 1000, "try x with e -> y"}, {"try x with e -> y", 1, 16, "try\n  x\nwith e ->\n  y"},
		{"match x with A -> y | B z -> 1 end", 34, 1000, "match x with A -> y | B z -> 1 end"}, {"match x with A -> y | B z -> 1 end", 1, 33, "match\n  x\nwith\n  A ->\n    y\n| B z ->\n  1\nend"},
		{"f x yy", 6, 1000, "f x yy"}, {"f x yy", 1, 5, "f\n  x\n  yy"},
		{"f (g x) y", 9, 1000, "f (g x) y"}, {"f (g x) y", 6, 8, "f\n  (g x)\n  y"}, {"f (g x) y", 1, 5, "f\n  (g\n    x)\n  y"},
		{"(fun x -> y) z", 14, 1000, "(fun x -> y) z"}, {"(fun x -> y) z", 11, 13, "(fun x -> y)\n  z"}, {"(fun x -> y) z", 1, 10, "(fun x ->\n  y)\n  z"},
		{"x + y", 5, 1000, "x + y"}, {"x + y", 1, 4, "x\n  + y"},
		{"x + y + z", 9, 1000, "x + y + z"}, {"x + y + z", 5, 8, "x + y\n  + z"}, {"x + y + z", 1, 4, "x\n  + y\n  + z"},
		{"x :: y :: z", 11, 1000, "x :: y :: z"}, {"x :: y :: z", 1, 10, "x\n  :: y\n    :: z"},
		{"(x + y) * z", 11, 1000, "(x + y) * z"}, {"(x + y) * z", 6, 10, "(x + y)\n  * z"}, {"(x + y) * z", 1, 5, "(x\n  + y)\n  * z"},
	} {
		for width := x.from; width <= x.to; width++ {
			if s, e := show.Show(parsed(t, x.s), fixes(), width); s != x.want || e != api.OK {
				t.Errorf("%q with the width %d: %q, %d; not %q", x.s, width, s, e, x.want)
				break
			}
		}
	}
}

// P8.1: which widths there are.
func TestWidth(t *testing.T) {
	l := parsed(t, "fun x -> x + 1")
	for width := 1; width <= api.MaxWidth; width++ {
		want := "fun x -> x + 1"
		if width < 14 {
			want = "fun x ->\n  x + 1"
		}
		if width < 7 {
			want = "fun x ->\n  x\n    + 1"
		}
		if s, e := show.Show(l, fixes(), width); s != want || e != api.OK {
			t.Errorf("the width %d: %q, %d", width, s, e)
		}
	}
	for _, width := range []int{0, -1, api.MaxWidth + 1, 1<<16 + 80, 1<<32 + 80, math.MaxInt, math.MinInt} {
		if s, e := show.Show(l, fixes(), width); s != "" || e != api.ErrShowWidth {
			t.Errorf("the width %d: %q, %d", width, s, e)
		}
	}
}

// P8.1: the text of patterns.
func TestPattern(t *testing.T) {
	pattern := func(s string) nodes {
		l := parsed(t, "match x with "+s+" -> x end")
		return l[2 : len(l)-1]
	}
	for _, s := range []string{"_", "x", "long_name'", "(+)", "(->>)", "0", "~1", "~4611686018427387904", "4611686018427387903", "Nil", "Cons x", "Cons _ _", "A B C", "A (B C)", "A (B C) D", "A (B (C D) E) (F G) ~1 (+) x _", "A (B (C (D (E x))))", "A B 1"} {
		if got, e := show.Pattern(pattern(s)); got != s || e != api.OK {
			t.Errorf("%q, %d; not %q", got, e, s)
		}
	}
	for s, want := range map[string]string{"(x)": "x", "((+))": "(+)", "(A)": "A", "A (B) (1) (x) (_)": "A B 1 x _", "(A (B (C)))": "A (B C)"} {
		if got, e := show.Pattern(pattern(s)); got != want || e != api.OK {
			t.Errorf("%q: %q, %d; not %q", s, got, e, want)
		}
	}
	deep := within(99, api.Node{Kind: api.PatCon, Text: "A"}, nodes{{Kind: api.PatAny}})
	if s, e := show.Pattern(deep); s != strings.Repeat("A (", 98)+"A _"+strings.Repeat(")", 98) || e != api.OK {
		t.Errorf("%q, %d", s, e)
	}
	wide := append(nodes{{Kind: api.PatCon, Text: "A", Kids: 3999}}, slices.Repeat(nodes{{Kind: api.PatInt, Num: -1}}, 3999)...)
	if s, e := show.Pattern(wide); s != "A"+strings.Repeat(" ~1", 3999) || e != api.OK {
		t.Errorf("%.20q, %d", s, e)
	}
}

// wrong are lists of nodes that are neither expressions nor patterns, and their errors.
func wrong() []struct {
	l nodes
	e api.Errno
} {
	x := v("x")
	return []struct {
		l nodes
		e api.Errno
	}{
		{nil, 60}, {nodes{}, 60}, {slices.Concat(x, x), 60}, {nodes{{Kind: api.ExpRaise, Kids: 1}}, 60}, {nodes{{Kind: api.ExpVar, Text: "x", Kids: -1}}, 60}, {nodes{{Kind: api.ExpApp, Kids: math.MaxInt}, x[0], x[0]}, 60}, {within(100, api.Node{Kind: api.ExpRaise}, x), 60}, {within(100, api.Node{Kind: api.PatCon, Text: "A"}, nodes{{Kind: api.PatAny}}), 60}, {arms(applied(x, x), 1999), 60}, {slices.Repeat(x, 1<<16), 60},
		{nodes{{}}, 61}, {nodes{{Kind: api.DocText, Text: "x"}}, 61}, {nodes{{Kind: 13}}, 61}, {nodes{{Kind: api.ExpVar, Text: "x", Num: 1}}, 61}, {nodes{{Kind: api.ExpApp, Kids: 1}, x[0]}, 61}, {nodes{{Kind: api.ExpApp}}, 61}, {made(api.ExpApp, "", x, x, x), 61}, {made(api.ExpMatch, "", x), 61}, {made(api.ExpRec, "f", x, x), 61}, {nodes{{Kind: api.ExpInt, Num: api.MaxInt + 1}}, 61}, {nodes{{Kind: api.PatInt, Num: api.MinInt - 1}}, 61}, {made(api.ExpText, strings.Repeat("a", 201)), 61}, {made(api.ExpRaise, "", made(api.PatAny, "")), 61}, {made(api.PatCon, "A", x), 61}, {made(api.ExpFun, "", made(api.ExpRaise, "")), 62},
		{v(""), 62}, {v("X"), 62}, {v("let"), 62}, {v("="), 62}, {v("x y"), 62}, {v("+ "), 62}, {v("x\n"), 62}, {made(api.ExpCon, "x"), 62}, {made(api.ExpFun, "(+)", x), 62}, {made(api.ExpLet, "->", x, x), 62}, {made(api.PatVar, "X"), 62}, {made(api.PatCon, "x"), 62}, {made(api.PatCon, "A", made(api.PatVar, "")), 62},
		{made(api.ExpMatch, "", x, made(api.PatCon, "A", made(api.PatVar, "x"), made(api.PatVar, "x")), x), 63}, {made(api.PatCon, "A", made(api.PatVar, "+"), made(api.PatVar, "+")), 63},
	}
}

// P8.1: what is no expression is told first, then fixities that may not be, then a width that may not be.
func TestErrors(t *testing.T) {
	l := parsed(t, "x + y")
	many := make([]api.Fix, 401)
	for i := range many {
		many[i] = api.Fix{Op: strings.Repeat("+", i+1)}
	}
	lists := []struct {
		fixes []api.Fix
		e     api.Errno
	}{
		{fixes(), 0}, {nil, 0}, {many[:400], 0}, {many, 40}, {[]api.Fix{{}}, 40}, {[]api.Fix{{Op: "x"}}, 40}, {[]api.Fix{{Op: "="}}, 40}, {[]api.Fix{{Op: "+", Level: 10}}, 40}, {[]api.Fix{{Op: "+", Side: 2}}, 40}, {[]api.Fix{{Op: "+"}, {Op: "+", Level: 1}}, 41}, {[]api.Fix{{Op: "+"}, {Op: "+"}, {Op: "-", Level: -1}}, 40},
	}
	widths := []int{80, 0, -1, api.MaxWidth + 1}
	check := func(l nodes, fixes []api.Fix, want api.Errno) {
		t.Helper()
		doc, e := show.Doc(l, fixes)
		if e != want || (e == api.OK) != (len(doc) > 0) {
			t.Errorf("Doc(%.3v, %.3v): %d, not %d", l, fixes, e, want)
		}
		s, e := show.Flat(l, fixes)
		if e != want || (e == api.OK) != (s != "") {
			t.Errorf("Flat(%.3v, %.3v): %q, %d, not %d", l, fixes, s, e, want)
		}
		for _, width := range widths {
			wantAt := want
			if want == api.OK && width != 80 {
				wantAt = api.ErrShowWidth
			}
			s, e := show.Show(l, fixes, width)
			if e != wantAt || (e == api.OK) != (s != "") {
				t.Errorf("Show(%.3v, %.3v, %d): %q, %d, not %d", l, fixes, width, s, e, wantAt)
			}
		}
	}
	for _, list := range lists {
		check(l, list.fixes, list.e)
	}
	for _, w := range wrong() {
		e, patE := w.e, w.e
		// What is right as a pattern up to its error is wrong as an expression from its root on, and the other way round.
		if root := append(w.l, api.Node{})[0].Kind; root >= api.PatAny && w.e > 60 {
			e = api.ErrSynForm
		} else if w.e > 60 {
			patE = api.ErrSynForm
		}
		for _, list := range lists {
			check(w.l, list.fixes, e)
		}
		if s, e := show.Pattern(w.l); s != "" || e != patE {
			t.Errorf("Pattern(%.3v): %q, %d, not %d", w.l, s, e, patE)
		}
	}
	for _, l := range []nodes{l, v("x"), made(api.ExpText, "")} {
		if s, e := show.Pattern(l); s != "" || e != api.ErrSynForm {
			t.Errorf("Pattern of an expression: %q, %d", s, e)
		}
	}
	for _, p := range []nodes{made(api.PatAny, ""), made(api.PatVar, "x"), made(api.PatCon, "A")} {
		check(p, fixes(), api.ErrSynForm)
	}
}

// P8.1: a document may have 4000 nodes; Doc returns greater ones, too.
func TestGreatDocuments(t *testing.T) {
	for _, x := range []struct {
		l    nodes
		size int
	}{
		{arms(parsed(t, "f (f x)"), 662), 4000},
		{arms(parsed(t, "let y = x in x"), 663), 4001},
		{arms(parsed(t, "f (f x)"), 663), 4006},
		{arms(parsed(t, "x"), 1999), 19 + 6*1998},
		{within(40, api.Node{Kind: api.ExpRaise}, arms(parsed(t, "f x"), 1900)), 40*6 + 25 + 6*1899},
	} {
		want := api.OK
		if x.size > api.MaxNodes {
			want = api.ErrLayoutForm
		}
		doc, e := show.Doc(x.l, fixes())
		if len(doc) != x.size || e != api.OK {
			t.Errorf("a document of %d nodes, %d; not %d", len(doc), e, x.size)
		}
		if s, e := show.Flat(x.l, fixes()); e != want || (e == api.OK) != (s != "") {
			t.Errorf("Flat of %d nodes: %.20q, %d", len(doc), s, e)
		}
		for _, width := range []int{1, 80, 1000} {
			if s, e := show.Show(x.l, fixes(), width); e != want || (e == api.OK) != (s != "") {
				t.Errorf("Show of %d nodes: %.20q, %d", len(doc), s, e)
			}
		}
		// The width is told before the size is.
		for _, width := range []int{0, 1001} {
			if s, e := show.Show(x.l, fixes(), width); s != "" || e != api.ErrShowWidth {
				t.Errorf("Show of %d nodes: %.20q, %d", len(doc), s, e)
			}
		}
		if _, e := show.Flat(x.l, []api.Fix{{}}); e != api.ErrFixForm {
			t.Errorf("Flat of %d nodes without right fixities: %d", len(doc), e)
		}
	}
}

// P1: calls with very much to show come to an end.
func TestHuge(t *testing.T) {
	name := strings.Repeat("name", 1<<16)
	op := strings.Repeat("+", 1<<16)
	some := []api.Fix{{Op: op, Level: 3, Side: -1}, {Op: op + "-", Level: 3, Side: -1}}
	chain := within(98, api.Node{Kind: api.ExpRaise}, v(name))
	if s, e := show.Show(chain, some, 1); len(s) != 98*6+len(name)+98*99 || e != api.OK {
		t.Errorf("%d bytes, %d", len(s), e)
	}
	sum := v(name)
	for range 40 {
		sum = applied(v(op), sum, v(name))
	}
	if s, e := show.Flat(sum, some); len(s) != 41*len(name)+40*(len(op)+2) || e != api.OK {
		t.Errorf("%d bytes, %d", len(s), e)
	}
	p := within(99, api.Node{Kind: api.PatCon, Text: "A"}, made(api.PatVar, op))
	if s, e := show.Pattern(p); len(s) != 98*4+2+len(op)+2 || e != api.OK {
		t.Errorf("%d bytes, %d", len(s), e)
	}
	for _, l := range []nodes{within(1<<20, api.Node{Kind: api.ExpRaise}, v("x")), arms(v("x"), 1<<19), slices.Repeat(nodes{{Kind: api.ExpApp, Kids: 2}}, 1<<20)} {
		if s, e := show.Show(l, some, 80); s != "" || e != api.ErrSynTree {
			t.Errorf("%d", e)
		}
		if s, e := show.Pattern(l); s != "" || e != api.ErrSynTree {
			t.Errorf("%d", e)
		}
	}
	many := slices.Repeat([]api.Fix{{Op: "+"}}, 1<<20)
	if doc, e := show.Doc(sum, many); len(doc) != 0 || e != api.ErrFixForm {
		t.Errorf("%d", e)
	}
}

// Arguments stay as they are, with the room behind them, and each result is a new list.
func TestArgumentsAndResults(t *testing.T) {
	for _, s := range []string{"x", "f x (g y) 1", "a + b * (c :: d)", "fun x -> (x)", "match x with A (B y) -> y | _ -> 1 end", "let rec f = fun x -> f x in try raise f with e -> if e then \"a\" else A"} {
		spare := slices.Concat(parsed(t, s), v("spare"), v("spare"))
		before := slices.Clone(spare)
		l := spare[:len(spare)-2]
		some := slices.Clone(fixes())
		first, _ := show.Doc(l, some[:5])
		_, _ = show.Show(l, some[:5], 8)
		_, _ = show.Flat(l, some[:5])
		if !slices.Equal(spare, before) || !slices.Equal(some, fixes()) {
			t.Errorf("%q: the arguments are changed", s)
		}
		want := slices.Clone(first)
		_ = append(first, api.Node{Kind: 77})
		for i := range first {
			first[i] = api.Node{Kind: 77}
		}
		second, _ := show.Doc(l, some[:5])
		if !slices.Equal(second, want) || !slices.Equal(spare, before) {
			t.Errorf("%q: the results are not independent", s)
		}
	}
	spare := slices.Concat(made(api.PatCon, "A", made(api.PatVar, "x")), v("spare"))
	before := slices.Clone(spare)
	if s, e := show.Pattern(spare[:2]); s != "A x" || e != api.OK || !slices.Equal(spare, before) {
		t.Errorf("Pattern: %q, %d; the argument is %v", s, e, spare)
	}
}
