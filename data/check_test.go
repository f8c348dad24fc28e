package data_test

import (
	"math"
	"slices"
	"strings"
	"testing"

	"triglyph/api"
	"triglyph/data"
)

// check compares Check with want, and the error of Sigs with that of Check.
func check(t *testing.T, l []api.Data, want api.Errno) {
	t.Helper()
	if e := data.Check(l); e != want {
		t.Fatalf("Check: %d, not %d, of %s", e, want, tell(l))
	}
	if sigs, e := data.Sigs(l); e != want || e != api.OK && len(sigs) != 0 {
		t.Fatalf("Sigs: %d constructors, %d; not the error %d; of %s", len(sigs), e, want, tell(l))
	}
}

// in returns declarations in the midst of which d stands.
func in(d api.Data) []api.Data {
	return decls(list(), d, decl("Last", 8, ctor("Last", vars(8)...)))
}

// P10.1: declarations that may stand together.
func TestRight(t *testing.T) {
	long := "X" + strings.Repeat("y'_9", 1<<16)
	pair := decl("Pair", 2, ctor("Pair", v(1), fun(v(0), con("List", number()))))
	for _, l := range [][]api.Data{
		nil, {}, decls(list()), decls(list(), pair), decls(pair, list()), decls(unit("A")), decls(unit("Int"), unit("Text"), unit("Ref"), unit("A_'9z")), decls(unit(long), unit(long+"z")),
		// Numbers of declarations, of constructors, of parameters, of Args; all at once.
		units(60), decls(decl("C", 0, ctors(60)...)), decls(decl("P", 8, ctor("P"))), decls(decl("P", 8, ctor("P", vars(8)...))), decls(decl("P", 1, ctor("P", v(0), v(0), v(0), v(0), v(0), v(0), v(0), v(0)))),
		// A name of a type and of a constructor, of its own and of another type.
		decls(decl("A", 0, ctor("B")), decl("B", 0, ctor("A"))),
		// Types of themselves, of each other, and of later ones.
		decls(decl("A", 0, ctor("A", con("A")))), decls(decl("A", 1, ctor("A", con("A", con("A", v(0)))))), decls(decl("A", 0, ctor("A", con("B", con("A")))), decl("B", 1, ctor("B", con("A")))), decls(decl("A", 0, ctor("A", fun(con("A"), con("A"))))),
		// What is built in.
		decls(decl("A", 0, ctor("A", number(), con("text"), con("ref", number()), fun(number(), con("text")), con("ref", con("ref", fun(number(), number()))), fun(fun(number(), number()), number())))),
		// All parameters, or none of them; the last one.
		decls(decl("A", 8, ctor("A", number()))), decls(decl("A", 8, ctor("A", v(7)))), decls(decl("A", 3, ctor("A", fun(v(2), con("ref", v(0)))))), decls(decl("Many", 8, ctor("Many", con("Many", vars(8)...)))),
		// The greatest Args.
		decls(decl("A", 1, ctor("A", refs(3999, v(0)), refs(3999, v(0))))), in(unit("A")),
	} {
		check(t, l, api.OK)
	}
	var most []api.Data
	for i, name := range numbered("D", 60) {
		d := decl(name, 8)
		for _, c := range numbered("C", 60) {
			d.Cons = append(d.Cons, ctor(c+"of"+name, con("D"+numbered("", 60)[59-i], vars(8)...), v(0), v(1), v(2), v(3), v(4), v(5), v(7)))
		}
		most = append(most, d)
	}
	check(t, most, api.OK)
	check(t, append(most, unit("A")), api.ErrDataForm)
	most[59].Cons[59].Name = most[0].Cons[0].Name
	check(t, most, api.ErrDataTwice)
	most[59].Cons[59].Name = "Other"
	most[59].Cons[59].Args[0][0].Text = "D60"
	check(t, most, api.ErrDataNone)
	most[59].Cons[59].Args[7][0].Num = 8
	check(t, most, api.ErrDataForm)
}

// wrong are declarations that are not well-formed.
func wrong() []api.Data {
	one := func(args ...nodes) api.Data { return decl("One", 2, ctor("One", args...)) }
	l := []api.Data{
		{}, decl("A", 0), decl("A", 3), {Name: "A", Cons: []api.Ctor{}}, decl("A", 0, ctors(61)...), decl("A", 0, ctors(1000)...),
		decl("A", -1, ctor("A")), decl("A", 9, ctor("A")), decl("A", math.MaxInt, ctor("A")), decl("A", math.MinInt, ctor("A")), decl("A", 1<<32, ctor("A")), decl("A", 9, ctor("A", v(8))),
		// Args that are no types, at each place.
		one(nil), one(nodes{}), one(v(0), nil), one(v(0), v(1), v(0), v(1), v(0), v(1), v(0), nil), one(con("->")), one(con("->", v(0))), one(con("ref")), one(con("int", v(0))), one(con("list", v(0))), one(con("a")), one(con("")), one(slices.Concat(v(0), v(1))), one(fun(v(0), v(1))[:2]), one(v(-1)), one(nodes{{Kind: api.TypVar, Text: "a"}}), one(nodes{{Kind: api.TypCon, Text: "int", Num: 1}}), one(nodes{{}}), one(nodes{{Kind: api.ExpInt}}), one(nodes{{Kind: api.TypCon, Text: "One", Kids: math.MaxInt}}), one(fun(v(0), con("ref"))), one(con("One", vars(9)...)), one(refs(4000, v(0))),
		// Variables that are no parameters.
		decl("A", 0, ctor("A", v(0))), one(v(2)), one(v(1 << 20)), one(v(0), v(2)), one(fun(v(0), v(2))), one(fun(v(2), v(0))), one(con("One", v(0), con("One", v(1), v(2)))), one(refs(3999, v(2))), decl("A", 8, ctor("A", vars(9)[8])), decl("A", 1, ctor("B"), ctor("C", v(0)), ctor("D", v(1))),
		// Too many Args.
		one(slices.Repeat(vars(1), 9)...), one(slices.Repeat(vars(1), 1000)...), decl("A", 1, ctor("B"), ctor("C", slices.Repeat(vars(1), 9)...)),
	}
	for _, name := range []string{"", "a", "list", "int", "->", "ref", "_", "_A", "'A", "9", "A ", " A", "A b", "A.B", "A-", "A+", "+", "É", "Aé", "A\x00", "A\n", "\nA", "A\xff", "(", "let", "A\u0391", "\u0391"} {
		l = append(l, unit(name), decl(name, 0, ctor("B")), decl("A", 0, ctor(name)), decl("A", 0, ctor("B"), ctor(name), ctor("C")), decl("A", 0, ctor("B"), ctor("C", number()), ctor(name, number())))
	}
	return l
}

// P10.1: declarations that are not well-formed, alone, among others, and at each end; and among others that have other
// errors, which are named later.
func TestForm(t *testing.T) {
	for _, d := range wrong() {
		if formed(d) {
			t.Fatal("well-formed:", tell(decls(d)))
		}
		twice, none := unit("Twice"), decl("None", 0, ctor("None", con("Nowhere")))
		for _, l := range [][]api.Data{
			decls(d), in(d), decls(d, list()), decls(list(), d), decls(d, d), append(units(59), d), append(decls(d), units(59)...),
			decls(twice, twice, d), decls(d, twice, twice), decls(none, d), decls(d, none), decls(none, twice, twice, d),
		} {
			check(t, l, api.ErrDataForm)
		}
	}
}

// P10.1: more than 60 declarations.
func TestTooMany(t *testing.T) {
	twice, none := unit("Twice"), decl("None", 0, ctor("None", con("Nowhere")))
	for _, l := range [][]api.Data{units(61), units(1000), append(units(59), twice, twice), append(units(60), none), make([]api.Data, 61), make([]api.Data, 1<<16), slices.Repeat(decls(twice), 61)} {
		check(t, l, api.ErrDataForm)
	}
	check(t, append(units(58), twice, twice), api.ErrDataTwice)
	check(t, append(units(59), none), api.ErrDataNone)
	check(t, units(60), api.OK)
}

// P10.1: which bytes a name may have, and where.
func TestNames(t *testing.T) {
	for b := range 256 {
		c := string([]byte{byte(b)})
		for _, text := range []string{c, c + "a", c + "A", "A" + c, "A" + c + "A", "int" + c} {
			want := api.ErrDataForm
			if name.MatchString(text) {
				want = api.OK
			}
			check(t, decls(decl(text, 0, ctor("B"))), want)
			check(t, decls(decl("B", 0, ctor(text))), want)
			check(t, decls(decl("B", 0, ctor("B9"), ctor(text))), want)
		}
	}
}

// P10.1: names that are told twice; a type that is not told is named later.
func TestTwice(t *testing.T) {
	a, b, c := ctor("A"), ctor("B"), ctor("C")
	long := strings.Repeat("X", 1<<16)
	for _, l := range [][]api.Data{
		decls(decl("T", 0, a), decl("T", 0, b)), decls(decl("T", 0, a), decl("T", 1, b)), decls(decl("T", 0, a), decl("U", 0, b), decl("T", 0, c)), decls(decl("U", 0, a), decl("T", 0, b), decl("T", 0, c)), decls(unit("T"), unit("T")),
		decls(decl("T", 0, a, a)), decls(decl("T", 0, a, b, a)), decls(decl("T", 0, b, c, c)), decls(decl("T", 1, a, ctor("A", v(0)))), decls(decl("T", 0, a), decl("U", 0, a)), decls(decl("T", 0, a, b), decl("U", 0, c, b)), decls(decl("T", 0, a), decl("U", 0, b), decl("V", 0, c, a)), decls(decl("T", 0, ctor("U")), decl("V", 0, ctor("T"), ctor("U"))),
		decls(unit(long+"a"), unit(long+"b"), unit(long+"a")), append(units(59), unit("U0")), append(units(59), unit("U58")), decls(decl("T", 0, append(ctors(59), ctor("C0"))...)),
	} {
		check(t, l, api.ErrDataTwice)
		if none := ctor("None", con("Nowhere")); len(l[0].Cons) < 60 {
			l[0].Cons = append([]api.Ctor{none}, l[0].Cons...)
			check(t, l, api.ErrDataTwice)
		}
	}
	// Names that differ by little, and names of a type and of constructors.
	check(t, decls(decl("A", 0, ctor("Aa"), ctor("AA"), ctor("A_"), ctor("A'"), ctor("A")), decl("Aa", 0, ctor("B")), decl("AA", 0, ctor("C"))), api.OK)
}

// P10.1: types that are not told, or of another number of parameters.
func TestNone(t *testing.T) {
	pair := decl("Pair", 2, ctor("MakePair", v(0), v(1)))
	for _, bad := range []nodes{
		con("Nowhere"), con("Nowhere", v(0)), con("Nil"), con("Cons", v(0), v(0)), con("MakePair"), con("MakePair", v(0), v(0)), con("Int"), con("Text"), con("Ref", v(0)), con("Lis", v(0)), con("List'", v(0)), con("LIST", v(0)),
		con("List"), con("List", v(0), v(0)), con("Pair"), con("Pair", v(0)), con("Pair", v(0), v(0), v(0)), con("Pair", vars(1)[0], v(0), v(0), v(0), v(0), v(0), v(0), v(0)), con("Own"), con("Own", v(0), v(0)),
	} {
		for _, arg := range []nodes{
			bad, con("ref", bad), fun(bad, v(0)), fun(v(0), bad), con("List", bad), con("Pair", bad, v(0)), con("Pair", v(0), bad), con("List", con("Pair", v(0), fun(con("ref", bad), v(0)))), refs(3000, bad), con("Nowhere", bad), con("Own", con("Own", bad)),
		} {
			for _, l := range [][]api.Data{
				decls(list(), pair, decl("Own", 1, ctor("Own", arg))),
				decls(decl("Own", 1, ctor("Own", arg)), pair, list()),
				decls(list(), decl("Own", 1, ctor("Own", v(0), con("Own", v(0)), arg, number())), pair),
				decls(list(), decl("Own", 1, ctor("First"), ctor("Own", v(0), v(0), v(0), v(0), v(0), v(0), v(0), arg), ctor("Last")), pair),
			} {
				check(t, l, api.ErrDataNone)
			}
		}
	}
	for _, params := range []int{0, 1, 7, 8} {
		for kids := range 9 {
			want := api.ErrDataNone
			if kids == params {
				want = api.OK
			}
			arg := con("A", slices.Repeat([]nodes{number()}, kids)...)
			check(t, decls(decl("A", params, ctor("A", arg))), want)
			check(t, decls(decl("B", 0, ctor("B", arg)), decl("A", params, ctor("A"))), want)
		}
	}
}

// P10.1: all lists of up to three of some declarations, compared with the model.
func TestSmallLists(t *testing.T) {
	some := []api.Data{
		unit("A"), unit("B"), decl("A", 1, ctor("C", v(0))), decl("B", 0, ctor("C", con("A"))), decl("B", 1, ctor("D", con("A", v(0)))), decl("C", 0, ctor("A"), ctor("B")), decl("D", 2, ctor("E", con("B"), con("D", v(0), v(1)))), decl("E", 0, ctor("F", con("ref", con("E")))), decl("E", 0, ctor("G", con("ref", con("E", number())))),
		decl("F", 0, ctor("H", v(0))), decl("F", 0), decl("f", 0, ctor("H")), decl("G", 0, ctor("I"), ctor("J", fun(con("B"), con("C")))), decl("H", 0, ctor("K"), ctor("K")),
	}
	count := map[api.Errno]int{}
	var longer func(l []api.Data)
	longer = func(l []api.Data) {
		want := modelCheck(l)
		count[want]++
		check(t, l, want)
		if len(l) < 3 {
			for _, d := range some {
				longer(append(slices.Clone(l), d))
			}
		}
	}
	longer(nil)
	for _, e := range []api.Errno{0, 100, 101, 102} {
		if count[e] < 80 {
			t.Errorf("%d only %d times", e, count[e])
		}
	}
}

// P10.1: greater declarations of a fixed rule, right ones and spoilt ones, compared with the model.
func TestGreaterLists(t *testing.T) {
	s := source(1)
	count := map[api.Errno]int{}
	for range 20000 {
		l := s.world()
		check(t, l, api.OK)
		for range 2 {
			s.spoil(l)
			want := modelCheck(l)
			count[want]++
			check(t, l, want)
		}
	}
	for _, e := range []api.Errno{0, 100, 101, 102} {
		if count[e] < 1000 {
			t.Errorf("%d only %d times", e, count[e])
		}
	}
}
