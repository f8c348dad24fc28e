package parse_test

import (
	"math"
	"slices"
	"strconv"
	"strings"
	"testing"

	"triglyph/api"
	"triglyph/parse"
)

// shape tells a tree: each node as its Kind, Text and Num, and its kids in brackets.
func shape(l nodes) string {
	if len(l) == 0 {
		return "nothing"
	}
	s, rest := shapeOf(l)
	if len(rest) > 0 {
		s += " and more"
	}
	return s
}

func shapeOf(l nodes) (string, nodes) {
	n := l[0]
	s, known := map[api.Kind]string{api.ExpInt: "int", api.ExpText: "text", api.ExpVar: "var", api.ExpCon: "con", api.ExpFun: "fun", api.ExpApp: "app", api.ExpLet: "let", api.ExpRec: "rec", api.ExpIf: "if", api.ExpMatch: "match", api.ExpRaise: "raise", api.ExpTry: "try", api.PatAny: "any", api.PatVar: "bound", api.PatInt: "number", api.PatCon: "of"}[n.Kind]
	if !known {
		s = "kind " + strconv.Itoa(int(n.Kind))
	}
	if n.Text != "" {
		s += " " + n.Text
	}
	if n.Num != 0 {
		s += " " + strconv.FormatInt(n.Num, 10)
	}
	l = l[1:]
	var kids []string
	for range n.Kids {
		var kid string
		kid, l = shapeOf(l)
		kids = append(kids, kid)
	}
	if n.Kids > 0 {
		s += "[" + strings.Join(kids, ", ") + "]"
	}
	return s, l
}

// P7.1, P7.2: each rule of the grammar, and the tree that it becomes.
func TestTrees(t *testing.T) {
	for _, x := range []struct{ s, want string }{
		// Atoms.
		{"x", "var x"}, {"0", "int"}, {"~7", "int -7"}, {"4611686018427387903", "int 4611686018427387903"}, {"~4611686018427387904", "int -4611686018427387904"}, {`"a b"`, "text a b"}, {`""`, "text"}, {"Cons", "con Cons"}, {"(+)", "var +"}, {"( :: )", "var ::"}, {"(%)", "var %"}, {"(x)", "var x"}, {"((((x))))", "var x"}, {"((+))", "var +"}, {" # nothing \n x # more", "var x"},
		// Applications.
		{"f x", "app[var f, var x]"}, {"f x y", "app[app[var f, var x], var y]"}, {"f (x y)", "app[var f, app[var x, var y]]"}, {"(f x) y", "app[app[var f, var x], var y]"}, {`A 1 "s" B`, `app[app[app[con A, int 1], text s], con B]`}, {"(+) 1 (-)", "app[app[var +, int 1], var -]"}, {"f (fun x -> x) y", "app[app[var f, fun x[var x]], var y]"}, {"1 2", "app[int 1, int 2]"}, {"f(x)1", "app[app[var f, var x], int 1]"}, {"f ~1", "app[var f, int -1]"},
		// Rows.
		{"a + b", "app[app[var +, var a], var b]"}, {"a + b + c", "app[app[var +, app[app[var +, var a], var b]], var c]"}, {"a :: b :: c", "app[app[var ::, var a], app[app[var ::, var b], var c]]"}, {"a + b * c", "app[app[var +, var a], app[app[var *, var b], var c]]"}, {"a * b + c", "app[app[var +, app[app[var *, var a], var b]], var c]"}, {"a < b", "app[app[var <, var a], var b]"}, {"a < b + c :: d", "app[app[var <, var a], app[app[var ::, app[app[var +, var b], var c]], var d]]"}, {"(a < b) < c", "app[app[var <, app[app[var <, var a], var b]], var c]"},
		{"f x + g y z", "app[app[var +, app[var f, var x]], app[app[var g, var y], var z]]"}, {"(+) + (+)", "app[app[var +, var +], var +]"}, {"a + ~1", "app[app[var +, var a], int -1]"}, {"(+) a b", "app[app[var +, var a], var b]"}, {"a + (fun x -> x)", "app[app[var +, var a], fun x[var x]]"},
		// The others.
		{"fun x -> x", "fun x[var x]"}, {"fun (+) -> x + y", "fun +[app[app[var +, var x], var y]]"}, {"fun x -> fun y -> x y", "fun x[fun y[app[var x, var y]]]"}, {"let x = 1 in x + 2", "let x[int 1, app[app[var +, var x], int 2]]"}, {"let (*) = f in let y = 2 in y", "let *[var f, let y[int 2, var y]]"}, {"let x = let y = 1 in y in x", "let x[let y[int 1, var y], var x]"}, {"let rec f = fun x -> f x in f 1", "rec f[fun x[app[var f, var x]], app[var f, int 1]]"}, {"let rec (+) = (fun x -> x) in 1", "rec +[fun x[var x], int 1]"}, {"let rec f = fun x -> fun y -> x in let x = f in x", "rec f[fun x[fun y[var x]], let x[var f, var x]]"},
		{"if a then b else c", "if[var a, var b, var c]"}, {"if a < b then 1 else if c then 2 else 3 + 4", "if[app[app[var <, var a], var b], int 1, if[var c, int 2, app[app[var +, int 3], int 4]]]"}, {"if if a then b else c then fun x -> d else e", "if[if[var a, var b, var c], fun x[var d], var e]"}, {"raise 7", "raise[int 7]"}, {"raise f x + 1", "raise[app[app[var +, app[var f, var x]], int 1]]"}, {"raise raise x", "raise[raise[var x]]"}, {"try f x with e -> e + 1", "try e[app[var f, var x], app[app[var +, var e], int 1]]"}, {"try try a with x -> b with (+) -> c", "try +[try x[var a, var b], var c]"}, {"try (try a with x -> b) with (+) -> c", "try +[try x[var a, var b], var c]"}, {"try a with x -> try b with y -> c", "try x[var a, try y[var b, var c]]"},
		// Matches.
		{"match x with _ -> 1 end", "match[var x, any, int 1]"}, {"match x with A -> 1 | B -> 2 | y -> 3 end", "match[var x, of A, int 1, of B, int 2, bound y, int 3]"}, {"match x with 0 -> 1 | ~1 -> 2 end", "match[var x, number, int 1, number -1, int 2]"}, {"match x with (+) -> 1 | (y) -> 2 | (_) -> 3 | (5) -> 4 | (A) -> 6 | ((A)) -> 7 end", "match[var x, bound +, int 1, bound y, int 2, any, int 3, number 5, int 4, of A, int 6, of A, int 7]"}, {"match x with Cons a (Cons _ Nil) -> a end", "match[var x, of Cons[bound a, of Cons[any, of Nil]], var a]"}, {"match x with A B 1 _ (+) (C D) (E) -> a end", "match[var x, of A[of B, number 1, any, bound +, of C[of D], of E], var a]"}, {"match x with (A y) -> a end", "match[var x, of A[bound y], var a]"},
		{"match f x + 1 with _ -> fun y -> y | x -> let z = 1 in z end", "match[app[app[var +, app[var f, var x]], int 1], any, fun y[var y], bound x, let z[int 1, var z]]"}, {"match match x with _ -> y end with _ -> match z with _ -> 1 | _ -> 2 end | _ -> 3 end", "match[match[var x, any, var y], any, match[var z, any, int 1, any, int 2], any, int 3]"}, {"f match x with _ -> y end z", "app[app[var f, match[var x, any, var y]], var z]"}, {"match x with _ -> y end + match x with _ -> z end", "app[app[var +, match[var x, any, var y]], match[var x, any, var z]]"}, {"match fun x -> x with f -> f 1 end", "match[fun x[var x], bound f, app[var f, int 1]]"},
	} {
		exp, at, e := parse.Parse(x.s, fixes())
		if shape(exp) != x.want || at != 0 || e != api.OK {
			t.Errorf("%q: %s, %d at %d", x.s, shape(exp), e, at)
		}
	}
}

// P7.1: each error that a text may have, with its position. (From here on errors stand as numbers: 70 ErrParseToken, 71
// ErrParseFix, 72 ErrParseClash, 73 ErrParseDeep, 74 ErrParseTree.)
func TestFaults(t *testing.T) {
	for _, x := range []struct {
		s  string
		at int
		e  api.Errno
	}{
		// A token that cannot begin an expression, or an end.
		{"", 0, 70}, {"  # x", 5, 70}, {")", 0, 70}, {" ->", 1, 70}, {"=", 0, 70}, {"|", 0, 70}, {"_", 0, 70}, {";;", 0, 70}, {"rec", 0, 70}, {"in x", 0, 70}, {"then", 0, 70}, {"else", 0, 70}, {"with", 0, 70}, {"end", 0, 70}, {"open", 0, 70}, {"type", 0, 70}, {"of", 0, 70}, {"infix", 0, 70}, {"infixl", 0, 70}, {"infixr", 0, 70}, {"+", 0, 70}, {"+ x", 0, 70}, {"- 1", 0, 70},
		// One that cannot continue it.
		{"x )", 2, 70}, {"x _", 2, 70}, {"x ;;", 2, 70}, {"x = 1", 2, 70}, {"x -> 1", 2, 70}, {"x | y", 2, 70}, {"x in y", 2, 70}, {"f fun x -> x", 2, 70}, {"f let", 2, 70}, {"f if", 2, 70}, {"f raise 1", 2, 70}, {"f try", 2, 70}, {"x + fun y -> y", 4, 70}, {"x + if", 4, 70}, {"x +", 3, 70}, {"x + + y", 4, 70}, {"x + )", 4, 70}, {"x end", 2, 70},
		// Parentheses.
		{"(", 1, 70}, {"()", 1, 70}, {"( )", 2, 70}, {"(x", 2, 70}, {"(x y", 4, 70}, {"(x ->", 3, 70}, {"(x))", 3, 70}, {"(+", 2, 70}, {"(+ x)", 3, 70}, {"(+ +)", 3, 70}, {"(x +)", 4, 70}, {"f (+ 1)", 5, 70}, {"(=)", 1, 70}, {"(->)", 1, 70}, {"(|)", 1, 70}, {"(in)", 1, 70}, {"(_)", 1, 70},
		// Names that are bound.
		{"fun", 3, 70}, {"fun 1 -> x", 4, 70}, {"fun X -> x", 4, 70}, {"fun _ -> x", 4, 70}, {"fun + -> x", 4, 70}, {"fun -> x", 4, 70}, {"fun (x) -> x", 5, 70}, {"fun (", 5, 70}, {"fun (+", 6, 70}, {"fun (+ -> x", 7, 70}, {"fun x y -> x", 6, 70}, {"fun x", 5, 70}, {"fun x = x", 6, 70}, {"fun x ->", 8, 70}, {"fun x -> in", 9, 70}, {"let in", 4, 70}, {"let", 3, 70}, {"let X = 1 in x", 4, 70}, {"let x -> 1", 6, 70}, {"let x y = 1 in x", 6, 70}, {"let x = in", 8, 70}, {"let x = 1", 9, 70}, {"let x = 1 on", 12, 70}, {"let x = 1 )", 10, 70}, {"let x = 1 in", 12, 70}, {"let rec", 7, 70}, {"let rec rec", 8, 70}, {"let rec 1", 8, 70}, {"let rec f x", 10, 70}, {"let rec f = fun x -> x", 22, 70}, {"let rec f = fun x -> x in )", 26, 70}, {"let (f) = 1 in f", 5, 70},
		// The others.
		{"if", 2, 70}, {"if then", 3, 70}, {"if x else", 5, 70}, {"if x then y", 11, 70}, {"if x then y )", 12, 70}, {"if x then y else", 16, 70}, {"if x then else", 10, 70}, {"raise", 5, 70}, {"raise )", 6, 70}, {"try", 3, 70}, {"try x", 5, 70}, {"try x with", 10, 70}, {"try x with 1", 11, 70}, {"try x with A -> x", 11, 70}, {"try x with e", 12, 70}, {"try x with e ->", 15, 70}, {"try x end", 6, 70}, {"try try a with x -> b", 21, 70}, {"try a with x -> b with y -> c", 18, 70},
		// Matches.
		{"match", 5, 70}, {"match with", 6, 70}, {"match x", 7, 70}, {"match x end", 8, 70}, {"match x with", 12, 70}, {"match x with end", 13, 70}, {"match x with | A -> 1 end", 13, 70}, {"match x with A", 14, 70}, {"match x with A 1", 16, 70}, {"match x with A = 1", 15, 70}, {"match x with A ->", 17, 70}, {"match x with A -> end", 18, 70}, {"match x with A -> 1", 19, 70}, {"match x with A -> 1 |", 21, 70}, {"match x with A -> 1 | end", 22, 70}, {"match x with A -> 1 | | B -> 2 end", 22, 70}, {"match x with A -> 1 ) end", 20, 70}, {"match x with A -> 1 B -> 2 end", 22, 70}, {"match x with A -> 1 end end", 24, 70}, {"match x with A -> 1 end with", 24, 70},
		// Patterns.
		{`match x with "s" -> 1 end`, 13, 70}, {`match x with A "s" -> 1 end`, 15, 70}, {"match x with + -> 1 end", 13, 70}, {"match x with A + -> 1 end", 15, 70}, {"match x with 1 2 -> 1 end", 15, 70}, {"match x with y A -> 1 end", 15, 70}, {"match x with _ _ -> 1 end", 15, 70}, {"match x with (A) B -> 1 end", 17, 70}, {"match x with () -> 1 end", 14, 70}, {"match x with (A", 15, 70}, {"match x with A (B -> 1 end", 18, 70}, {"match x with A (B", 17, 70}, {"match x with A (", 16, 70}, {"match x with (+ -> 1 end", 16, 70}, {"match x with A (+ y) -> 1 end", 18, 70}, {"match x with (1 2) -> 1 end", 16, 70}, {"match x with fun -> 1 end", 13, 70}, {"match x with A (fun) -> 1 end", 16, 70},
		// Rows: those that are complete first come first, and before any token that follows.
		{"x % y", 2, 71}, {"x + y % z", 6, 71}, {"x % y ! z", 2, 71}, {"x ! y % z", 2, 71}, {"(a % b) + c", 3, 71}, {"f (a + b) % c", 10, 71}, {"a ! (b % c)", 7, 71}, {"a ! (b < c < d)", 5, 72}, {"a < (b % c) < d", 7, 71}, {"(a ! b) + (c % d)", 3, 71}, {"(a < b < c) % d", 1, 72}, {"fun x -> x % y", 11, 71}, {"let x = a % b in c % d", 10, 71}, {"match a % b with c -> 1 end", 8, 71}, {"match x with A -> a % b | B -> c ! d end", 20, 71}, {"x % y )", 2, 71}, {"x % y = z", 2, 71}, {"x % y fun", 2, 71}, {"(x % y", 3, 71}, {"(x % y end", 3, 71}, {"x % ", 4, 70}, {"x % )", 4, 70}, {"x % y z +", 9, 70}, {"x % (y", 6, 70}, {"if x % y", 5, 71}, {"try x % y )", 6, 71},
		{"a < b < c", 0, 72}, {"  a < b < c", 2, 72}, {"1 + (a < b < c)", 5, 72}, {"a + b & c", 0, 72}, {"a & b + c", 0, 72}, {"(f) x < b < c", 0, 72}, {"(+) + 1 & 2", 0, 72}, {"fun x -> a < b < c", 9, 72}, {"a :: b + c & d :: e", 0, 72}, {"a < b < c % d", 10, 71}, {"a < b < c )", 0, 72}, {"a < b < )", 8, 70}, {"match x with _ -> a < b < c | ;; end", 18, 72}, {"x * (a + b & c) < y < z", 5, 72},
		// No expression.
		{"let rec f = 1 in f", 0, 74}, {" let rec f = f in f", 0, 74}, {"let rec f = let x = 1 in fun y -> y in f", 0, 74}, {"match x with A a a -> 1 end", 0, 74}, {"match x with A a (B (C a)) -> 1 end", 0, 74}, {"match x with A (+) (+) -> 1 end", 0, 74}, {"let rec f = 1 in )", 17, 70}, {"match x with A a a -> b % c end", 24, 71}, {"f (let rec f = 1 in f)", 0, 74},
		// The errors of layer 3.
		{"x ;", 2, 30}, {") ;", 2, 30}, {"x % y {", 6, 30}, {"x 99999999999999999999", 2, 31}, {"+ ~", 2, 31}, {`f "a`, 2, 32}, {strings.Repeat("x ", 4001), 8000, 33},
	} {
		if exp, at, e := parse.Parse(x.s, fixes()); len(exp) != 0 || at != x.at || e != x.e {
			t.Errorf("%q: %s, %d at %d; not %d at %d", x.s, shape(exp), e, at, x.e, x.at)
		}
	}
}

// P7.1, P7.2: errors of the fixities come first, whatever else is wrong.
func TestFixities(t *testing.T) {
	plus := api.Fix{Op: "+", Level: 6, Side: -1}
	many := make([]api.Fix, 401)
	for i := range many {
		many[i] = api.Fix{Op: strings.Repeat("+", i+1)}
	}
	for i, x := range []struct {
		fixes []api.Fix
		e     api.Errno
	}{
		{[]api.Fix{{}}, api.ErrFixForm}, {[]api.Fix{plus, {Op: "=", Level: 1}}, api.ErrFixForm}, {[]api.Fix{{Op: "+", Level: 10}}, api.ErrFixForm}, {[]api.Fix{{Op: "+", Side: 2}}, api.ErrFixForm}, {many, api.ErrFixForm},
		{[]api.Fix{plus, plus}, api.ErrFixTwice}, {[]api.Fix{plus, {Op: "*"}, {Op: "+", Level: 1}}, api.ErrFixTwice}, {[]api.Fix{plus, plus, {}}, api.ErrFixForm},
	} {
		for _, s := range []string{"x", "", "x + y", ")", "x % y", `"`, "{", "99999999999999999999", strings.Repeat("x ", 4001), "let rec f = 1 in f", strings.Repeat("(", 101)} {
			if exp, at, e := parse.Parse(s, x.fixes); len(exp) != 0 || at != 0 || e != x.e {
				t.Errorf("%d, Parse: %d at %d", i, e, at)
			}
		}
		for _, l := range [][]api.Token{nil, {{Kind: api.TokName, Text: "x", At: 5}}, {{Kind: api.TokOp, Text: "+", At: 5}}} {
			if exp, at, e := parse.Tokens(l, 7, x.fixes); len(exp) != 0 || at != 0 || e != x.e {
				t.Errorf("%d, Tokens: %d at %d", i, e, at)
			}
		}
	}
	if exp, at, e := parse.Parse("x + +++ y", many[:400]); at != 4 || e != api.ErrParseToken {
		t.Errorf("%s, %d at %d", shape(exp), e, at)
	}
	if exp, at, e := parse.Parse("x +++ y", many[:400]); at != 0 || e != api.OK {
		t.Errorf("%s, %d at %d", shape(exp), e, at)
	}
	if exp, at, e := parse.Parse("f x (+)", nil); shape(exp) != "app[app[var f, var x], var +]" || at != 0 || e != api.OK {
		t.Errorf("%s, %d at %d", shape(exp), e, at)
	}
	if _, at, e := parse.Parse("x + y", nil); at != 2 || e != api.ErrParseFix {
		t.Errorf("%d at %d", e, at)
	}
}

// P7.1: how deep exprs and pats may be nested, and where it is too deep.
func TestDeep(t *testing.T) {
	nest := func(n int, open, middle, shut string) string {
		return strings.Repeat(open, n) + middle + strings.Repeat(shut, n)
	}
	for _, x := range []struct {
		s  string
		at int
		e  api.Errno
	}{
		{nest(99, "(", "x", ")"), 0, 0}, {nest(100, "(", "x", ")"), 100, 73}, {nest(101, "(", "x", ")"), 100, 73},
		// An operator in parentheses is no expr.
		{nest(99, "(", "(+)", ")"), 0, 0}, {nest(100, "(", "+", ")"), 0, 0}, {nest(100, "(", "(+)", ")"), 100, 73}, {nest(101, "(", "+", ")"), 100, 73},
		// Too deep comes before a token that cannot begin anything, and before the end.
		{strings.Repeat("(", 100), 100, 73}, {strings.Repeat("(", 99), 99, 70}, {nest(100, "(", "", ")"), 100, 73}, {nest(99, "(", "", ")"), 99, 70}, {strings.Repeat("(", 100) + "in", 100, 73}, {strings.Repeat("(", 99) + "in", 99, 70}, {strings.Repeat("(", 100) + "+", 101, 70}, {strings.Repeat("(", 100) + "+ x", 102, 70}, {strings.Repeat("(", 99) + "+", 100, 70}, {strings.Repeat("(", 100) + " # x", 104, 73},
		// Behind other words. A function in 99 others is as deep as a tree may be, its body is too deep.
		{strings.Repeat("raise ", 99) + "x", 0, 0}, {strings.Repeat("raise ", 100) + "x", 600, 73}, {strings.Repeat("raise ", 100), 600, 73}, {strings.Repeat("raise ", 99), 594, 70},
		{strings.Repeat("fun x -> ", 99) + "x", 0, 0}, {strings.Repeat("fun x -> ", 100) + "x", 900, 73}, {strings.Repeat("fun x -> ", 99) + "f x", 0, 74}, {strings.Repeat("fun x -> ", 98) + "f x", 0, 0},
		{strings.Repeat("if ", 100) + "x", 300, 73}, {strings.Repeat("try ", 100) + "x", 400, 73}, {strings.Repeat("match ", 100) + "x", 600, 73}, {strings.Repeat("let x = ", 100) + "x", 800, 73}, {strings.Repeat("let x = 1 in ", 99) + "x", 0, 0}, {strings.Repeat("let x = 1 in ", 99) + "let x = in", 1295, 73}, {strings.Repeat("let x = 1 in ", 100) + "x", 1295, 73}, {strings.Repeat("if a then b else ", 99) + "x", 0, 0}, {strings.Repeat("if a then b else ", 100) + "x", 1686, 73}, {strings.Repeat("x + (", 100) + "x", 500, 73}, {strings.Repeat("f (", 100) + "x", 300, 73},
		// What stands beside it has no part in it.
		{nest(99, "(", "x", ")") + nest(99, "(", "x", ")"), 0, 0}, {nest(99, "(", "x", ")") + nest(100, "(", "x", ")"), 299, 73}, {"if " + nest(98, "(", "x", ")") + " then " + nest(98, "(", "x", ")") + " else " + nest(98, "(", "x", ")"), 0, 0}, {"if x then y else " + nest(99, "(", "x", ")"), 116, 73},
		// Pats count, too.
		{"match x with " + nest(98, "(", "A", ")") + " -> " + nest(98, "(", "x", ")") + " end", 0, 0}, {"match x with " + nest(99, "(", "A", ")") + " -> x end", 112, 73}, {"match x with " + nest(99, "(", "+", ")") + " -> x end", 0, 0}, {"match x with " + nest(98, "(", "(+)", ")") + " -> x end", 0, 0}, {"match x with " + nest(99, "(", "(+)", ")") + " -> x end", 112, 73}, {"match x with " + strings.Repeat("(", 99), 112, 73}, {"match x with " + strings.Repeat("(", 98), 111, 70}, {"match x with " + strings.Repeat("(", 99) + "end", 112, 73}, {"match x with " + nest(98, "A (", "B", ")") + " -> x end", 0, 0}, {"match x with " + nest(98, "A (", "B C", ")") + " -> x end", 0, 74}, {"match x with " + nest(99, "A (", "B", ")") + " -> x end", 310, 73}, {"match x with A -> " + nest(99, "(", "x", ")") + " end", 117, 73},
		{nest(99, "(", "match x with", ")"), 105, 73}, {strings.Repeat("(", 98) + "match x with y -> y end" + strings.Repeat(")", 98), 0, 0}, {strings.Repeat("(", 98) + "match x with (y) -> y end" + strings.Repeat(")", 98), 112, 73}, {strings.Repeat("(", 98) + "match x with A y (+) -> y end" + strings.Repeat(")", 98), 0, 0}, {strings.Repeat("(", 98) + "match x with y -> (y) end" + strings.Repeat(")", 98), 117, 73}, {strings.Repeat("raise ", 98) + "match x with", 600, 70}, {strings.Repeat("raise ", 98) + "match x with (", 602, 73}, {strings.Repeat("raise ", 99) + "match x with", 600, 73},
		// What comes first counts.
		{"a % b " + strings.Repeat("(", 100), 106, 73}, {"(a % b) " + strings.Repeat("(", 101), 3, 71}, {") " + strings.Repeat("(", 101), 0, 70},
	} {
		if exp, at, e := parse.Parse(x.s, fixes()); at != x.at || e != x.e || (e == api.OK) != (len(exp) > 0) {
			t.Errorf("%q: %d at %d, not %d at %d", x.s, e, at, x.e, x.at)
		}
	}
	if _, at, e := parse.Tokens(lexed(t, strings.Repeat("(", 100)), -9, nil); at != -9 || e != api.ErrParseDeep {
		t.Errorf("%d at %d", e, at)
	}
}

// row returns a row of that many operators.
func row(ops int, op string) string { return "x" + strings.Repeat(" "+op+" x", ops) }

// P7.1: a row has at most 400 operators; those without fixities are told before.
func TestManyOperators(t *testing.T) {
	// Each left-associative operator makes a tree two levels deeper, each right-associative one by one level. With
	// operators of two Levels there is room for 400: 40 of one, and 9 of the other one in each of 40 operands.
	full := strings.Repeat(row(9, "*")+" + ", 40) + "x"
	for _, x := range []struct {
		s  string
		at int
		e  api.Errno
	}{
		{row(49, "+"), 0, 0}, {row(50, "+"), 0, 74}, {row(98, "::"), 0, 0}, {row(99, "::"), 0, 74}, {full, 0, 0}, {full + " * x", 0, 72}, {full + " * x % x", 1606, 71}, {row(400, "+"), 0, 74}, {" " + row(401, "+"), 1, 72}, {" " + row(401, "::"), 1, 72}, {row(400, "%"), 2, 71}, {row(401, "%"), 2, 71}, {row(401, "+") + " % x", 1606, 71}, {"raise " + row(401, "+"), 6, 72}, {"(" + row(400, "+") + ") + x", 0, 74}, {"(" + row(401, "+") + ") % x", 1, 72}, {row(401, "<"), 0, 72}, {row(401, "+") + ")", 0, 72}, {row(401, "+") + " +", 1607, 70},
	} {
		if exp, at, e := parse.Parse(x.s, fixes()); at != x.at || e != x.e || (e == api.OK) != (len(exp) > 0) {
			t.Errorf("%.30q of %d bytes: %d at %d, not %d at %d", x.s, len(x.s), e, at, x.e, x.at)
		}
	}
}

// P7.1: ErrParseTree, if an expression would be too deep or have too many nodes.
func TestTooGreat(t *testing.T) {
	arms := func(n int) string { return "match x with" + strings.Repeat(" _ -> x |", n-1) + " _ -> x end" }
	for _, x := range []struct {
		s string
		e api.Errno
	}{
		{"f" + strings.Repeat(" x", 99), 0}, {"f" + strings.Repeat(" x", 100), 74}, {"f" + strings.Repeat(" x", 3999), 74}, {"(f" + strings.Repeat(" x", 98) + ") x", 0}, {"(f" + strings.Repeat(" x", 99) + ") x", 74}, {"fun x -> f" + strings.Repeat(" x", 98), 0}, {"fun x -> f" + strings.Repeat(" x", 99), 74},
		{arms(900), 0}, {"match x with A" + strings.Repeat(" _", 3000) + " -> x end", 0}, {"match x with A" + strings.Repeat(" x", 2) + " -> x end", 74},
	} {
		if exp, at, e := parse.Parse(x.s, nil); at != 0 || e != x.e || (e == api.OK) != (len(exp) > 0) {
			t.Errorf("%.30q of %d bytes: %d at %d, not %d", x.s, len(x.s), e, at, x.e)
		}
	}
	// These have more tokens than Lex tells, but Tokens takes any number.
	x := api.Token{Kind: api.TokName, Text: "x"}
	key := func(s string) api.Token { return api.Token{Kind: api.TokKey, Text: s} }
	l := []api.Token{key("match"), x, key("with"), key("_"), key("->"), x}
	for n := 1; n < 2000; n++ {
		if n == 1999 {
			exp, at, e := parse.Tokens(append(slices.Clip(l), key("end")), 0, nil)
			if len(exp) != 4000 || at != 0 || e != api.OK {
				t.Errorf("%d nodes: %d at %d", len(exp), e, at)
			}
		}
		l = append(l, key("|"), key("_"), key("->"), x)
	}
	if exp, at, e := parse.Tokens(append(l, key("end")), 0, nil); len(exp) != 0 || at != 0 || e != api.ErrParseTree {
		t.Errorf("%d nodes: %d at %d", len(exp), e, at)
	}
}

// P7.1: positions are those of the tokens, whatever they are, and end.
func TestPositions(t *testing.T) {
	at := func(l []api.Token, positions ...int) []api.Token {
		for i := range l {
			l[i].At = positions[i]
		}
		return l
	}
	for i, x := range []struct {
		l    []api.Token
		end  int
		want int
		e    api.Errno
	}{
		{nil, 9, 9, 70}, {nil, -9, -9, 70}, {nil, math.MaxInt, math.MaxInt, 70}, {[]api.Token{}, math.MinInt, math.MinInt, 70},
		{at(lexed(t, "+"), 7), 9, 7, 70}, {at(lexed(t, "x )"), 5, -5), 9, -5, 70}, {at(lexed(t, "x +"), 5, 5), 5, 5, 70}, {at(lexed(t, "x +"), 8, 9), 3, 3, 70}, {at(lexed(t, "x )"), 0, math.MinInt), 9, math.MinInt, 70},
		{at(lexed(t, "x % y"), 9, math.MaxInt, 7), 6, math.MaxInt, 71}, {at(lexed(t, "x < y < z"), -1, 1, 2, 3, 4), 6, -1, 72}, {at(lexed(t, "x < y < z"), math.MinInt, 1, 2, 3, 4), 6, math.MinInt, 72},
		{at(lexed(t, "x y"), -1, math.MaxInt), -8, 0, 0}, {at(lexed(t, "let rec f = 1 in f"), 9, 8, 7, 6, 5, 4, 3), 2, 0, 74},
	} {
		if exp, got, e := parse.Tokens(x.l, x.end, fixes()); got != x.want || e != x.e || (e == api.OK) != (len(exp) > 0) {
			t.Errorf("%d: %d at %d, not %d at %d", i, e, got, x.e, x.want)
		}
	}
}

// P1, P7.1: tokens that are not valid go by their Kind, keys by their Text, too; what comes of it may be no expression.
func TestTokensThatAreNotValid(t *testing.T) {
	x := api.Token{Kind: api.TokName, Text: "x", At: 4}
	key := func(s string) api.Token { return api.Token{Kind: api.TokKey, Text: s, At: 5} }
	odd := func(kind api.TokenKind, s string, n int64) api.Token {
		return api.Token{Kind: kind, Text: s, Num: n, At: 6}
	}
	for _, kind := range []api.TokenKind{0, -1, 7, 8, 99, math.MaxInt, math.MinInt, api.TokName + 1<<32} {
		for _, text := range []string{"", "x", "(", "fun", "+"} {
			w := odd(kind, text, 1)
			for i, l := range [][]api.Token{{w}, {x, w}, {key("("), w}, {key("fun"), w}, {key("match"), x, key("with"), w}} {
				if exp, at, e := parse.Tokens(l, 9, fixes()); len(exp) != 0 || at != 6 || e != api.ErrParseToken {
					t.Errorf("Kind %d, %d: %d at %d", kind, i, e, at)
				}
			}
		}
	}
	for i, y := range []struct {
		l  []api.Token
		at int
		e  api.Errno
	}{
		{[]api.Token{odd(api.TokKey, "", 0)}, 6, 70}, {[]api.Token{odd(api.TokKey, "x", 0)}, 6, 70}, {[]api.Token{x, odd(api.TokKey, "+", 0), x}, 6, 70}, {[]api.Token{odd(api.TokName, "fun", 0), x}, 0, 74},
		{[]api.Token{odd(api.TokName, "", 0)}, 0, 74}, {[]api.Token{odd(api.TokName, "X", 0)}, 0, 74}, {[]api.Token{odd(api.TokCon, "x", 0)}, 0, 74}, {[]api.Token{odd(api.TokInt, "", api.MaxInt+1)}, 0, 74}, {[]api.Token{odd(api.TokInt, "", math.MinInt64)}, 0, 74}, {[]api.Token{odd(api.TokText, strings.Repeat("a", 201), 0)}, 0, 74}, {[]api.Token{key("fun"), odd(api.TokName, "fun", 0), key("->"), x}, 0, 74}, {[]api.Token{key("match"), x, key("with"), odd(api.TokCon, "", 0), key("->"), x, key("end")}, 0, 74}, {[]api.Token{key("match"), x, key("with"), odd(api.TokInt, "", api.MinInt-1), key("->"), x, key("end")}, 0, 74},
		{[]api.Token{x, odd(api.TokOp, "x", 0), x}, 6, 71}, {[]api.Token{x, odd(api.TokOp, "", 0), x}, 6, 71}, {[]api.Token{key("("), odd(api.TokOp, "=", 0), key(")")}, 0, 74},
	} {
		if exp, at, e := parse.Tokens(y.l, 9, fixes()); len(exp) != 0 || at != y.at || e != y.e {
			t.Errorf("%d: %s, %d at %d; not %d at %d", i, shape(exp), e, at, y.e, y.at)
		}
	}
}

// P1: calls with very much to read come to an end.
func TestHuge(t *testing.T) {
	const n = 1 << 16
	x := lexed(t, "x")
	again := func(s string, times int) []api.Token { return slices.Repeat(lexed(t, s), times) }
	all := make([]api.Fix, 400)
	for i := range all {
		all[i] = api.Fix{Op: strings.Repeat("+", i+1), Level: 6, Side: -1}
	}
	for i, w := range []struct {
		l []api.Token
		e api.Errno
	}{
		{again("x", n), 74}, {again("(", n), 73}, {again("raise", n), 73}, {again("match", n), 73}, {again("(x)", n), 74}, {again("(x + x)", n), 74}, {slices.Concat(again("x +", n), x), 72}, {slices.Concat(again("x %", n), x), 71}, {again("x +", n), 70}, {slices.Concat(again("let x = x in", n), x), 73},
		{slices.Concat(lexed(t, "match x with A"), again("y", n), lexed(t, "-> x end")), 74}, {slices.Concat(lexed(t, "match x with"), again("A y _ (B y) -> x |", n), lexed(t, "_ -> x end")), 74}, {slices.Concat(again("(", 99), again("x", n), again(")", 99)), 74}, {slices.Concat(again("f (x + ", 99), again("x", n), again(")", 99)), 74},
	} {
		if exp, _, e := parse.Tokens(w.l, 0, all); len(exp) != 0 || e != w.e {
			t.Errorf("%d: %d, not %d", i, e, w.e)
		}
	}
	for _, s := range []string{strings.Repeat("x ", 1<<20), strings.Repeat("(", 1<<20), strings.Repeat(" ", 1<<20), strings.Repeat("+", 1<<20), "\x00", "\xff\xfe", "é"} {
		if exp, _, e := parse.Parse(s, all); len(exp) != 0 || e == api.OK {
			t.Errorf("%.9q", s)
		}
	}
}

// Arguments stay as they are, with the room behind them, and each result is a new list.
func TestArgumentsAndResults(t *testing.T) {
	for _, s := range []string{"x", "f x", "a + b * c :: d", "fun x -> (x)", "match x with A (B y) -> y | _ -> 1 end", "x )", "a % b", "a < b < c", "let rec f = 1 in f", ""} {
		spare := lexed(t, s+" x y")
		l := spare[:len(spare)-2]
		before := slices.Clone(spare)
		fixesBefore := append(fixes(), api.Fix{Op: "!"})
		some := slices.Clone(fixesBefore)
		first, _, _ := parse.Tokens(l, 0, some[:5])
		if !slices.Equal(spare, before) || !slices.Equal(some, fixesBefore) {
			t.Errorf("%q: the arguments are changed", s)
		}
		want := slices.Clone(first)
		for i := range first {
			first[i] = api.Node{Kind: 77}
		}
		_ = append(first, api.Node{Kind: 77})
		second, _, _ := parse.Tokens(l, 0, some[:5])
		if !slices.Equal(second, want) {
			t.Errorf("%q: the results are not independent", s)
		}
	}
}
