package pat_test

import (
	"slices"
	"strings"
	"testing"

	"triglyph/api"
	"triglyph/pat"
	"triglyph/tree"
)

// equalAll tells whether two lists of lists are equal.
func equalAll(a, b []nodes) bool { return slices.EqualFunc(a, b, slices.Equal[nodes]) }

// P12.1: the arguments of constructors at types.
func TestArgs(t *testing.T) {
	nest := con("Nest", con("Pair", number(), number()))
	for _, x := range []struct {
		t    nodes
		con  string
		want []nodes
		ok   bool
	}{
		{list(number()), "Cons", []nodes{number(), list(number())}, true},
		{list(number()), "Nil", nil, true},
		{list(v(7)), "Cons", []nodes{v(7), list(v(7))}, true},
		{list(list(word())), "Cons", []nodes{list(word()), list(list(word()))}, true},
		{con("Bool"), "True", nil, true},
		{con("Pair", v(1), v(0)), "Pair", []nodes{v(1), v(0)}, true},
		{con("Pair", fun(v(0), v(1)), con("Other", v(3))), "Pair", []nodes{fun(v(0), v(1)), con("Other", v(3))}, true},
		{con("Swap", number(), word()), "Swap", []nodes{con("Pair", word(), number())}, true},
		{con("Swap", number(), word()), "Same", []nodes{number()}, true},
		{con("Nest", number()), "Nest", []nodes{nest}, true},
		{con("Odd", number(), v(1), word()), "Odd", []nodes{fun(word(), word()), con("ref", number()), word(), number()}, true},
		{con("Loop"), "Loop", []nodes{con("Loop")}, true},
		// They are not defined.
		{list(number()), "True", nil, false}, {list(number()), "Other", nil, false}, {list(number()), "List", nil, false}, {list(number()), "", nil, false}, {con("Bool"), "Nil", nil, false}, {con("Pair", number(), number()), "Cons", nil, false},
		{v(0), "Nil", nil, false}, {number(), "Nil", nil, false}, {number(), "int", nil, false}, {fun(number(), number()), "->", nil, false}, {con("ref", number()), "ref", nil, false}, {con("Other"), "Other", nil, false}, {con("Cons", number()), "Cons", nil, false},
		{con("List"), "Nil", nil, false}, {con("List", number(), number()), "Nil", nil, false}, {con("Bool", number()), "True", nil, false},
		// What is no type.
		{nil, "Nil", nil, false}, {list(con("int", number())), "Nil", nil, false}, {list(v(-1)), "Nil", nil, false}, {list(v(1<<20 + 1)), "Nil", nil, false}, {list(con("list")), "Nil", nil, false}, {append(list(number()), number()...), "Nil", nil, false}, {list(nil), "Nil", nil, false}, {wild(), "Nil", nil, false},
	} {
		got, ok := pat.Args(world(), x.t, x.con)
		if ok != x.ok || !equalAll(got, x.want) {
			t.Errorf("%s of %s: %s, %t, not %s", x.con, tell(x.t), tellAll(got), ok, tellAll(x.want))
		}
	}
}

// notValid are declarations that are not valid.
func notValid() [][]api.Data {
	return [][]api.Data{
		{{}},
		append(world(), decl("Bool", 0, ctor("Yes"))),
		append(world(), decl("More", 0, ctor("True"))),
		append(world(), decl("More", 0, ctor("More", con("Absent")))),
		append(world(), decl("More", 0, ctor("More", v(0)))),
		append(world(), decl("More", 0)),
		append(world(), decl("more", 0, ctor("More"))),
		append(world(), decl("More", 0, ctor("More", list(number())[:1]))),
	}
}

// P12.1, P12.3: nothing has a type if the declarations are not valid.
func TestNotValid(t *testing.T) {
	b := con("Bool")
	for i, l := range append(notValid(), world()) {
		valid := i == len(notValid())
		want := api.ErrPatType
		if valid {
			want = api.OK
		}
		if got, ok := pat.Args(l, list(b), "Cons"); ok != valid || len(got) > 0 != valid {
			t.Errorf("Args under %d: %s, %t", i, tellAll(got), ok)
		}
		if e := pat.Check(l, b, wild()); e != want {
			t.Errorf("Check under %d: %d", i, e)
		}
		if pat.Has(l, b, vc("True")) != valid {
			t.Errorf("Has under %d", i)
		}
		if p, is, e := pat.Missing(l, b, nil); e != want || is != valid || len(p) > 0 != valid {
			t.Errorf("Missing under %d: %s, %t, %d", i, tell(p), is, e)
		}
		if got, e := pat.Useless(l, b, []nodes{wild(), wild()}); e != want || len(got) > 0 != valid {
			t.Errorf("Useless under %d: %v, %d", i, got, e)
		}
	}
}

// checked are types with patterns that have them, and patterns that do not.
var checked = []struct {
	t        nodes
	has, not string // one after the other, with semicolons between
}{
	{number(), "_; x; 1; ~4611686018427387904; 4611686018427387903", "Nil; True"},
	{word(), "_; x", "1; Nil"},
	{v(0), "_; x", "1; Nil; True"},
	{v(5), "_; x", "1"},
	{fun(number(), number()), "_; x", "1; Nil"},
	{con("ref", number()), "_; x", "1; Nil"},
	{con("Other"), "_; x", "1; Other; Nil"},
	{con("Bool"), "_; x; True; False", "1; Nil; True _; False 1; Bool; One"},
	{con("Bool", number()), "_; x", "True; False"},
	{con("List"), "_; x", "Nil"},
	{con("List", number(), number()), "_", "Nil; Cons _ _"},
	{list(number()), "_; Nil; Cons _ _; Cons x y; Cons 1 Nil; Cons 1 (Cons 2 y); Cons _ (Cons _ (Cons _ Nil))", "1; Cons; Cons _; Cons _ _ _; Nil _; Cons True _; Cons _ 1; Cons _ (Cons _ True); Cons Nil Nil; Cons 1 (Cons Nil Nil); Cons _ (Cons 1 (Nil _))"},
	{list(con("Bool")), "Cons True Nil; Cons x (Cons False _)", "Cons 1 Nil; Cons _ (Cons 1 _)"},
	{list(v(0)), "Cons _ (Cons x Nil); Nil", "Cons 1 Nil; Cons _ (Cons True _)"},
	{list(fun(number(), number())), "Cons f Nil", "Cons 1 Nil"},
	{con("Pair", number(), con("Bool")), "Pair 1 True; Pair _ False; Pair 1 _", "Pair True 1; Pair 1; Pair 1 True _; Pair 1 1"},
	{con("Swap", number(), con("Bool")), "Swap (Pair True 1); Same 1; Swap _", "Swap (Pair 1 True); Same True; Swap True 1; Same"},
	{con("Nest", number()), "Flat 1; Nest (Flat (Pair 1 2)); Nest (Nest (Flat (Pair (Pair 1 2) (Pair _ x))))", "Nest (Flat 1); Nest (Nest (Flat (Pair 1 2)))"},
	{con("Odd", number(), word(), con("Bool")), "Odd f r t 1; Odd _ _ _ _", "Odd 1 _ _ _; Odd _ 1 _ _; Odd _ _ 1 _; Odd _ _ _ True; Odd _ _ _ _ _"},
	{con("Loop"), "Loop _; Loop (Loop (Loop x)); _", "Loop; Loop 1; Loop Loop"},
	{con("Eight"), "Eight _ _ _ _ _ _ _ _; Eight True False x _ True True True False", "Eight _ _ _ _ _ _ _; Eight _ _ _ _ _ _ _ _ _; Eight _ _ _ _ _ _ _ 1"},
}

// P12.1: patterns that have a type, and patterns that do not.
func TestCheck(t *testing.T) {
	for _, x := range checked {
		for want, texts := range map[api.Errno]string{api.OK: x.has, api.ErrPatType: x.not} {
			for _, text := range strings.Split(texts, "; ") {
				p := read(t, text)
				if e := pat.Check(world(), x.t, p); e != want {
					t.Errorf("%s of the type %s: %d", text, tell(x.t), e)
				}
				if fits := modelFits(world(), grow(x.t), grow(p)); fits != (want == api.OK) {
					t.Errorf("the model of %s of the type %s: %t", text, tell(x.t), fits)
				}
				// P12.3: the same errors, wherever the pattern is.
				for i := range 3 {
					pats := slices.Insert([]nodes{wild(), wild()}, i, p)
					got, is, e := pat.Missing(world(), x.t, pats)
					if e != want || is || len(got) > 0 {
						t.Errorf("Missing for %s of the type %s: %s, %t, %d", text, tell(x.t), tell(got), is, e)
					}
					useless, e := pat.Useless(world(), x.t, pats)
					if e != want || len(useless) > 0 != (e == api.OK) {
						t.Errorf("Useless for %s of the type %s: %v, %d", text, tell(x.t), useless, e)
					}
				}
			}
		}
	}
}

// noPatterns are lists of nodes that are no patterns; only that keeps them from having the type Pair int int.
func noPatterns() []nodes {
	deep := wild()
	for range 100 {
		deep = pc("Pair", deep, wild())
	}
	return []nodes{
		nil, {}, {{}}, {{Kind: 99}}, {{Kind: api.PatAny, Kids: 1}}, {{Kind: api.PatAny, Kids: -1}}, {{Kind: api.PatAny, Num: 1}}, {{Kind: api.PatAny, Text: "x"}}, append(wild(), wild()...), name(""), name("X"), name("if"), name("1"), {{Kind: api.PatVar, Text: "x", Num: 1}},
		pc("Pair", name("x"), name("x")), pc("Pair", wild(), nodes{{Kind: api.PatInt, Num: 1 << 62}}), pc("Pair", wild(), nodes{{Kind: api.PatInt, Num: -1<<62 - 1}}), pc("Pair", wild(), nodes{{Kind: api.PatInt, Text: "1"}}), pc("Pair", wild(), nodes{{Kind: api.PatCon, Text: "Pair", Kids: 2}}), {{Kind: api.PatCon, Text: "Pair", Kids: 2, Num: 1}, wild()[0], wild()[0]}, {{Kind: api.PatCon, Text: "Pair", Kids: 2}}, {{Kind: api.PatCon, Text: "Pair", Kids: 1 << 62}}, pc("pair", wild(), wild()), vc("Pair", vi(1), vi(2)), pc("Pair", vi(1), vi(2)), pc("Pair", wild(), number()), node(api.ExpVar, "x"), deep,
	}
}

// P12.1, P12.3: what is no pattern has no type, not even one that every pattern of its form has.
func TestNoPattern(t *testing.T) {
	for _, typ := range []nodes{con("Pair", number(), number()), v(0)} {
		for i, p := range noPatterns() {
			if e := pat.Check(world(), typ, p); e != api.ErrPatType {
				t.Errorf("%d: %d", i, e)
			}
			if got, is, e := pat.Missing(world(), typ, []nodes{wild(), p}); len(got) > 0 || is || e != api.ErrPatType {
				t.Errorf("Missing for %d: %s, %t, %d", i, tell(got), is, e)
			}
			if got, e := pat.Useless(world(), typ, []nodes{wild(), wild(), p}); len(got) > 0 || e != api.ErrPatType {
				t.Errorf("Useless for %d: %v, %d", i, got, e)
			}
		}
	}
	for i, typ := range []nodes{nil, con("list"), con("int", number()), con("->", number()), v(-1), v(1<<20 + 1), wild(), append(number(), number()...), list(nil), {{Kind: api.TypCon, Text: "T", Num: 1}}} {
		if e := pat.Check(world(), typ, wild()); e != api.ErrPatType {
			t.Errorf("of what is no type, %d: %d", i, e)
		}
		if pat.Has(world(), typ, vf()) {
			t.Errorf("a function is of what is no type, %d", i)
		}
		if got, is, e := pat.Missing(world(), typ, nil); len(got) > 0 || is || e != api.ErrPatType {
			t.Errorf("Missing of what is no type, %d: %s, %t, %d", i, tell(got), is, e)
		}
		if got, e := pat.Useless(world(), typ, nil); len(got) > 0 || e != api.ErrPatType {
			t.Errorf("Useless of what is no type, %d: %v, %d", i, got, e)
		}
	}
}

// P12.1: values that have a type, and values that do not. A function is written as a name.
func TestHas(t *testing.T) {
	for _, x := range []struct {
		t        nodes
		has, not string
	}{
		{number(), `1; 0; ~4611686018427387904; 4611686018427387903`, `"a"; f; Nil; True`},
		{word(), `"a"; ""`, `1; f; Nil`},
		{v(0), `f`, `1; "a"; Nil`},
		{v(1 << 20), `f`, `1`},
		{fun(number(), number()), `f`, `1; "a"; Nil`},
		{con("ref", word()), `f`, `1; "a"; Nil`},
		{con("Other"), ``, `f; 1; "a"; Other; Nil`},
		{con("Bool"), `True; False`, `f; 1; "a"; True 1; Nil`},
		{con("Bool", number()), ``, `True; f`},
		{con("List"), ``, `Nil; f`},
		{list(number()), `Nil; Cons 1 Nil; Cons 1 (Cons 2 Nil)`, `f; 1; Cons; Cons 1; Cons 1 1; Cons 1 f; Cons f Nil; Cons True Nil; Cons 1 (Cons "a" Nil); Nil Nil; Cons 1 Nil Nil`},
		{list(word()), `Nil; Cons "a" Nil`, `Cons 1 Nil; Cons "a" (Cons 1 Nil)`},
		{list(v(0)), `Nil; Cons f Nil; Cons f (Cons g Nil)`, `Cons 1 Nil`},
		{list(fun(v(0), v(0))), `Cons f Nil`, `Cons 1 Nil; f`},
		{con("Pair", number(), word()), `Pair 1 "a"`, `Pair "a" 1; Pair 1; Pair 1 "a" 1`},
		{con("Swap", number(), word()), `Swap (Pair "a" 1); Same 1`, `Swap (Pair 1 "a"); Same "a"`},
		{con("Nest", number()), `Flat 1; Nest (Flat (Pair 1 2)); Nest (Nest (Flat (Pair (Pair 1 2) (Pair 3 4))))`, `Nest (Flat 1); Nest (Nest (Flat (Pair 1 2)))`},
		{con("Odd", number(), v(0), word()), `Odd f r "a" 1`, `Odd 1 r "a" 1; Odd f 1 "a" 1; Odd f r s 1; Odd f r "a" n; Odd f r "a" "a"`},
		{con("Loop"), ``, `f; Loop; Loop f; Loop (Loop f)`},
	} {
		for want, texts := range map[int]string{1: x.has, 0: x.not} {
			for _, text := range strings.Split(texts, "; ") {
				if text == "" {
					continue
				}
				value := val(t, text)
				if pat.Has(world(), x.t, value) != (want == 1) {
					t.Errorf("%s of the type %s: %t", text, tell(x.t), want == 0)
				}
				if modelFits(world(), grow(x.t), grow(value)) != (want == 1) || !modelValue(value) {
					t.Errorf("the model of %s of the type %s: %t", text, tell(x.t), want == 0)
				}
			}
		}
	}
}

// noValues are lists of nodes that are no values.
func noValues() []nodes {
	return []nodes{
		nil, {}, {{}}, {{Kind: 99}}, wild(), exact(1), pc("Nil"), number(), exactly(4001),
		{{Kind: api.ValInt, Num: 1 << 62}}, {{Kind: api.ValInt, Num: -1<<62 - 1}}, {{Kind: api.ValInt, Text: "1"}}, node(api.ValInt, "", vi(1)), {{Kind: api.ValInt, Kids: -1}}, {{Kind: api.ValInt, Kids: 1}}, append(vi(1), vi(1)...),
		vt(strings.Repeat("a", 201)), {{Kind: api.ValText, Text: "a", Num: 1}}, node(api.ValText, "a", vi(1)),
		vc(""), vc("nil"), vc("if"), vc("Nil Nil"), vc("1"), vc("->"), {{Kind: api.ValCon, Text: "Nil", Num: 1}}, {{Kind: api.ValCon, Text: "Cons", Kids: 2}}, {{Kind: api.ValCon, Text: "Cons", Kids: 2}, {Kind: api.ValInt}}, {{Kind: api.ValCon, Text: "Nil", Kids: -1}}, {{Kind: api.ValCon, Text: "Nil", Kids: 1 << 62}}, append(vc("Nil"), vc("Nil")...),
		{{Kind: api.ValFun, Num: 1}}, {{Kind: api.ValFun, Text: "f"}}, node(api.ValFun, "", vi(1)), vc("Cons", vi(1), nodes{{Kind: api.ValFun, Text: "f"}}), vc("Cons", wild(), vc("Nil")),
	}
}

// exactly returns a value of the type List int, or List of that list, of that many nodes.
func exactly(n int) nodes {
	cons := nodes{{Kind: api.ValCon, Text: "Cons", Kids: 2}, vi(1)[0]}
	l := append(slices.Repeat(cons, (n-1)/2), vc("Nil")...)
	if n%2 == 0 {
		l = tree.Make(api.Node{Kind: api.ValCon, Text: "Some"}, l)
	}
	return l
}

// P12.1, P12.2: what is no value has no type, and nothing matches it.
func TestNoValue(t *testing.T) {
	for i, x := range noValues() {
		if modelValue(x) {
			t.Errorf("the model of %d", i)
		}
		for _, typ := range []nodes{number(), word(), v(0), fun(v(0), v(0)), list(number()), con("Some", list(number())), list(v(0))} {
			if pat.Has(world(), typ, x) {
				t.Errorf("%d is of the type %s", i, tell(typ))
			}
		}
		if names, ok := pat.Match(wild(), x); ok || len(names) > 0 {
			t.Errorf("any matches %d", i)
		}
		if names, ok := pat.Match(name("x"), x); ok || len(names) > 0 {
			t.Errorf("a name matches %d", i)
		}
		if at := pat.First([]nodes{wild(), name("x")}, x); at != -1 {
			t.Errorf("%d matches %d", at, i)
		}
	}
	// These are values.
	for i, x := range []nodes{exactly(1), exactly(3999), exactly(4000), vi(1<<62 - 1), vi(-1 << 62), vt(""), vt(strings.Repeat("a", 200)), vt(strings.Repeat("\xff", 200)), vf(), vc("Many", slices.Repeat([]nodes{vf()}, 3999)...), vc("X'_1"), slices.Concat(slices.Repeat(nodes{{Kind: api.ValCon, Text: "S", Kids: 1}}, 3999), vi(0))} {
		if names, ok := pat.Match(name("x"), x); !ok || len(names) != 1 || !slices.Equal(names[0].Value, x) || !modelValue(x) {
			t.Errorf("a name does not match %d", i)
		}
		if at := pat.First([]nodes{exact(3), wild()}, x); at != 1 {
			t.Errorf("any does not match %d", i)
		}
	}
	if !pat.Has(world(), list(number()), exactly(3999)) || !pat.Has(world(), con("Some", list(number())), exactly(4000)) || pat.Has(world(), list(word()), exactly(3999)) {
		t.Error("great lists")
	}
}

// P12.2: which patterns match which values, and what they bind.
func TestMatch(t *testing.T) {
	for _, x := range []struct {
		p, v string
		ok   bool
		want []string // names and what is bound to them, by turns
	}{
		{"_", "1", true, nil}, {"_", "f", true, nil}, {"_", "Cons 1 Nil", true, nil},
		{"x", "1", true, []string{"x", "1"}}, {"x", "f", true, []string{"x", "f"}}, {"x", `"a"`, true, []string{"x", `"a"`}}, {"x", "Cons 1 Nil", true, []string{"x", "Cons 1 Nil"}},
		{"1", "1", true, nil}, {"1", "2", false, nil}, {"1", `"1"`, false, nil}, {"1", "f", false, nil}, {"0", "f", false, nil}, {"0", `""`, false, nil}, {"0", "Nil", false, nil}, {"~1", "~1", true, nil}, {"~1", "1", false, nil},
		{"Nil", "Nil", true, nil}, {"Nil", "Cons", false, nil}, {"Nil", "1", false, nil}, {"Nil", "f", false, nil}, {"Nil", `"Nil"`, false, nil}, {"Nil", "Nil 1", false, nil}, {"Nil _", "Nil", false, nil}, {"Nil _", "Nil 1", true, nil},
		{"Cons x y", "Cons 1 Nil", true, []string{"x", "1", "y", "Nil"}}, {"Cons y x", "Cons 1 Nil", true, []string{"y", "1", "x", "Nil"}}, {"Cons x y", "Nil", false, nil}, {"Cons x y", "Cons 1", false, nil}, {"Cons x y", "Cons 1 2 3", false, nil},
		{"Cons _ (Cons x _)", "Cons 1 (Cons 2 Nil)", true, []string{"x", "2"}}, {"Cons _ (Cons x _)", "Cons 1 Nil", false, nil}, {"Cons x (Cons 3 _)", "Cons 1 (Cons 2 Nil)", false, nil}, {"Cons x (Cons 2 y)", "Cons 1 (Cons 2 (Cons 3 Nil))", true, []string{"x", "1", "y", "Cons 3 Nil"}},
		{"Fork (Fork x a y) b (Fork z c u)", "Fork (Fork Leaf 1 Leaf) 2 (Fork (Fork Leaf 5 Leaf) 3 Leaf)", true, []string{"x", "Leaf", "a", "1", "y", "Leaf", "b", "2", "z", "Fork Leaf 5 Leaf", "c", "3", "u", "Leaf"}}, {"Fork (Fork x a y) b (Fork z 4 u)", "Fork (Fork Leaf 1 Leaf) 2 (Fork Leaf 3 Leaf)", false, nil},
		{"T a b c d e f g h i j", "T 1 2 3 4 5 6 7 8 9 10", true, []string{"a", "1", "b", "2", "c", "3", "d", "4", "e", "5", "f", "6", "g", "7", "h", "8", "i", "9", "j", "10"}},
	} {
		names, ok := pat.Match(read(t, x.p), val(t, x.v))
		if ok != x.ok || len(names) != len(x.want)/2 {
			t.Errorf("%s and %s: %d names, %t", x.p, x.v, len(names), ok)
			continue
		}
		for i, n := range names {
			if n.Name != x.want[2*i] || !slices.Equal(n.Value, val(t, x.want[2*i+1])) {
				t.Errorf("%s and %s: %s is %s", x.p, x.v, n.Name, tell(n.Value))
			}
		}
		at := pat.First([]nodes{read(t, "Never"), read(t, x.p), wild()}, val(t, x.v))
		if x.ok && at != 1 || !x.ok && at != 2 {
			t.Errorf("%s and %s: the first is %d", x.p, x.v, at)
		}
	}
	for i, p := range noPatterns() {
		for _, x := range []nodes{vi(1), vf(), vc("Pair", vi(1), vi(2)), vc("Pair", vc("Pair", vi(1), vi(2)), vi(2))} {
			if names, ok := pat.Match(p, x); ok || len(names) > 0 {
				t.Errorf("%d, which is no pattern, matches %s", i, tell(x))
			}
			if at := pat.First([]nodes{p, p}, x); at != -1 {
				t.Errorf("%d, which is no pattern, is the first to match %s", i, tell(x))
			}
			if at := pat.First([]nodes{p, wild(), p}, x); at != 1 {
				t.Errorf("behind %d, which is no pattern, any does not match %s: %d", i, tell(x), at)
			}
		}
	}
}

// P12.2: the first of several patterns.
func TestFirst(t *testing.T) {
	pats := readAll(t, "Nil", "Cons 1 _", "Cons x (Cons 2 _)", "Cons _ Nil", "Cons 1 Nil", "Cons x y")
	for text, want := range map[string]int{"Nil": 0, "Cons 1 Nil": 1, "Cons 1 (Cons 2 Nil)": 1, "Cons 3 (Cons 2 Nil)": 2, "Cons 3 Nil": 3, "Cons 3 (Cons 3 Nil)": 5, "Cons": -1, "1": -1, "f": -1} {
		if at := pat.First(pats, val(t, text)); at != want {
			t.Errorf("%s: %d, not %d", text, at, want)
		}
	}
	if at := pat.First(nil, vi(1)); at != -1 {
		t.Errorf("of none, %d is the first", at)
	}
}
