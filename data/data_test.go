package data_test

import (
	"slices"
	"strings"
	"testing"

	"triglyph/api"
	"triglyph/data"
	"triglyph/typ"
)

// sameTypes tells whether two lists of lists of nodes are equal.
func sameTypes(a, b []nodes) bool { return slices.EqualFunc(a, b, slices.Equal[nodes]) }

// sameCtors tells whether two lists of constructors are equal.
func sameCtors(a, b []api.Ctor) bool {
	return slices.EqualFunc(a, b, func(a, b api.Ctor) bool { return a.Name == b.Name && sameTypes(a.Args, b.Args) })
}

// sameSigs tells whether two lists of names with types are equal.
func sameSigs(a, b []api.Sig) bool {
	return slices.EqualFunc(a, b, func(a, b api.Sig) bool { return a.Name == b.Name && slices.Equal(a.Type, b.Type) })
}

// sameData tells whether two lists of declarations are equal.
func sameData(a, b []api.Data) bool {
	return slices.EqualFunc(a, b, func(a, b api.Data) bool {
		return a.Name == b.Name && a.Params == b.Params && sameCtors(a.Cons, b.Cons)
	})
}

// P10.2: the types of constructors.
func TestSigs(t *testing.T) {
	for _, x := range []struct {
		l    []api.Data
		want string
	}{
		{nil, ""},
		{decls(list()), "Nil: List '0; Cons: '0 -> List '0 -> List '0; "},
		{decls(unit("Unit")), "Unit: Unit; "},
		{decls(decl("Pair", 2, ctor("Pair", v(1), fun(v(0), con("List", number())))), list()), "Pair: '1 -> ('0 -> List int) -> Pair '0 '1; Nil: List '0; Cons: '0 -> List '0 -> List '0; "},
		{decls(decl("Many", 8, ctor("One", v(7)), ctor("None"), ctor("All", vars(8)...))), "One: '7 -> Many '0 '1 '2 '3 '4 '5 '6 '7; None: Many '0 '1 '2 '3 '4 '5 '6 '7; All: '0 -> '1 -> '2 -> '3 -> '4 -> '5 -> '6 -> '7 -> Many '0 '1 '2 '3 '4 '5 '6 '7; "},
		{decls(decl("Fun", 1, ctor("Fun", fun(fun(v(0), v(0)), v(0)), con("ref", v(0))))), "Fun: (('0 -> '0) -> '0) -> ref '0 -> Fun '0; "},
		{decls(decl("A", 0, ctor("B"), ctor("A")), decl("B", 0, ctor("D", con("A")), ctor("C"))), "B: A; A: A; D: A -> B; C: B; "},
	} {
		sigs, e := data.Sigs(x.l)
		got := ""
		for _, sig := range sigs {
			text, _ := typ.Show(sig.Type)
			got += sig.Name + ": " + text + "; "
		}
		if got != x.want || e != api.OK {
			t.Errorf("Sigs: %s %d, not %s", got, e, x.want)
		}
	}
	// The Arrow of great Args is no type any more, but it is what the constructor's type is.
	great := decls(decl("A", 1, ctor("A", slices.Repeat([]nodes{refs(3999, v(0))}, 8)...)))
	if sigs, e := data.Sigs(great); e != api.OK || !sameSigs(sigs, modelSigs(great)) || len(sigs[0].Type) != 8*4001+2 {
		t.Errorf("Sigs of great Args: %d of them, %d", len(sigs), e)
	}
}

// P10.2: the types of constructors, compared with the model; of greater declarations of a fixed rule.
func TestSigsModel(t *testing.T) {
	s := source(2)
	for range 20000 {
		l := s.world()
		if sigs, e := data.Sigs(l); e != api.OK || !sameSigs(sigs, modelSigs(l)) {
			t.Fatalf("Sigs: %d, of %s", e, tell(l))
		}
	}
	for _, n := range []int{1, 59, 60} {
		for _, l := range [][]api.Data{units(n), decls(decl("C", 3, ctors(n)...))} {
			if sigs, e := data.Sigs(l); e != api.OK || len(sigs) != n || !sameSigs(sigs, modelSigs(l)) {
				t.Errorf("Sigs of %d: %d, %d", n, len(sigs), e)
			}
		}
	}
}

// P10.2: where constructors are found, and with which others.
func TestFind(t *testing.T) {
	l := decls(list(), decl("Pair", 2, ctor("Pair", v(1))), decl("Color", 0, ctor("Red"), ctor("Green"), ctor("List")))
	for _, x := range []struct {
		con  string
		d, c int
		ok   bool
	}{
		{"Nil", 0, 0, true}, {"Cons", 0, 1, true}, {"Pair", 1, 0, true}, {"Red", 2, 0, true}, {"Green", 2, 1, true}, {"List", 2, 2, true},
		{"Color", 0, 0, false}, {"", 0, 0, false}, {"Ni", 0, 0, false}, {"Nil'", 0, 0, false}, {"nil", 0, 0, false}, {"Nil ", 0, 0, false}, {"Blue", 0, 0, false}, {strings.Repeat("Nil", 1000), 0, 0, false},
	} {
		if d, c, ok := data.Find(l, x.con); d != x.d || c != x.c || ok != x.ok {
			t.Errorf("Find(%q): %d, %d, %t", x.con, d, c, ok)
		}
		if d, c, ok := data.Find(nil, x.con); d != 0 || c != 0 || ok {
			t.Errorf("Find(nil, %q): %d, %d, %t", x.con, d, c, ok)
		}
		var family []api.Ctor
		if x.ok {
			family = l[x.d].Cons
		}
		if got := data.Family(l, x.con); !sameCtors(got, family) {
			t.Errorf("Family(%q): %s", x.con, tell(decls(decl("", 0, got...))))
		}
		if got := data.Family(nil, x.con); len(got) != 0 {
			t.Errorf("Family(nil, %q): %d", x.con, len(got))
		}
	}
}

// P10.2: the first of several is found, and it does not matter whether the declarations may stand together.
func TestFindFirst(t *testing.T) {
	a, b, c := ctor("A"), ctor("B", nil), ctor("", v(9), nodes{{}})
	for _, x := range []struct {
		l    []api.Data
		con  string
		d, c int
	}{
		{decls(decl("T", 0, a, a)), "A", 0, 0}, {decls(decl("T", 0, b, a, b, a)), "A", 0, 1}, {decls(decl("T", 0, b), decl("T", 0, a)), "A", 1, 0}, {decls(decl("T", 0, b, a), decl("U", 0, a, b)), "A", 0, 1}, {decls(decl("T", 0, b, a), decl("U", 0, a, b)), "B", 0, 0},
		{decls(api.Data{}, api.Data{}, decl("", -1, a, c)), "", 2, 1}, {decls(decl("a", 99, b), decl("A", 0), decl("b", -9, c, c, a)), "A", 2, 2}, {append(units(1000), unit("U1000")), "U1000", 1000, 0}, {decls(decl("T", 0, ctors(1000)...)), "C999", 0, 999},
	} {
		if d, c, ok := data.Find(x.l, x.con); d != x.d || c != x.c || !ok {
			t.Errorf("Find(%q): %d, %d, %t; of %s", x.con, d, c, ok, tell(x.l))
		}
		if got := data.Family(x.l, x.con); !sameCtors(got, x.l[x.d].Cons) {
			t.Errorf("Family(%q): %d constructors; of %s", x.con, len(got), tell(x.l))
		}
	}
}

// P10.2: each constructor of declarations of a fixed rule, right ones and spoilt ones, compared with all in order.
func TestFindModel(t *testing.T) {
	s := source(3)
	for i := range 5000 {
		l := s.world()
		for range i % 4 {
			s.spoil(l)
		}
		for _, con := range append(numbered("K", 25), "List", "Other", "k", "") {
			d, c, ok := 0, 0, false
			for i, j := 0, 0; i < len(l) && !ok; {
				switch {
				case j == len(l[i].Cons):
					i, j = i+1, 0
				case l[i].Cons[j].Name == con:
					d, c, ok = i, j, true
				default:
					j++
				}
			}
			if gotD, gotC, gotOK := data.Find(l, con); gotD != d || gotC != c || gotOK != ok {
				t.Fatalf("Find(%q): %d, %d, %t; of %s", con, gotD, gotC, gotOK, tell(l))
			}
			if got := data.Family(l, con); ok && !sameCtors(got, l[d].Cons) || !ok && len(got) != 0 {
				t.Fatalf("Family(%q): %d constructors; of %s", con, len(got), tell(l))
			}
		}
	}
}

// P10.3: types of functions, and what they are made of.
func TestArrow(t *testing.T) {
	f := fun(v(0), v(1))
	for _, x := range []struct {
		args []nodes
		to   nodes
		want string
	}{
		{nil, v(3), "'3"}, {[]nodes{}, f, "'0 -> '1"}, {[]nodes{v(0)}, v(0), "'0 -> '0"}, {[]nodes{v(0), number(), con("List", v(0))}, con("text"), "'0 -> int -> List '0 -> text"},
		{[]nodes{f}, v(2), "('0 -> '1) -> '2"}, {[]nodes{v(2)}, f, "'2 -> '0 -> '1"}, {[]nodes{f, f}, f, "('0 -> '1) -> ('0 -> '1) -> '0 -> '1"}, {[]nodes{con("ref", f)}, con("Pair", f, f), "ref ('0 -> '1) -> Pair ('0 -> '1) ('0 -> '1)"},
	} {
		got := data.Arrow(x.args, x.to)
		if text, _ := typ.Show(got); text != x.want {
			t.Errorf("Arrow: %s, not %s", show(got), x.want)
		}
	}
	// What is no type is taken as it is.
	bad := nodes{{Kind: 77, Text: "bad", Num: -5, Kids: -1}, {}}
	for _, args := range [][]nodes{nil, {nil}, {bad}, {nil, bad, nil}, {v(0), bad, slices.Concat(v(1), v(2))}} {
		for _, to := range []nodes{nil, {}, bad, v(0), slices.Concat(v(3), v(4))} {
			if got, want := data.Arrow(args, to), modelArrow(args, to); !slices.Equal(got, want) {
				t.Errorf("Arrow: %s, not %s", show(got), show(want))
			}
		}
	}
}

// P10.3: what types of functions are made of.
func TestParts(t *testing.T) {
	f, g := fun(v(0), v(1)), fun(number(), fun(v(2), con("text")))
	for _, x := range []struct {
		t    nodes
		args []nodes
		to   nodes
	}{
		{v(0), nil, v(0)}, {v(1 << 20), nil, v(1 << 20)}, {number(), nil, number()}, {con("List", f), nil, con("List", f)}, {con("ref", f), nil, con("ref", f)}, {con("Many", f, g), nil, con("Many", f, g)},
		{f, []nodes{v(0)}, v(1)}, {g, []nodes{number(), v(2)}, con("text")}, {fun(f, v(2)), []nodes{f}, v(2)}, {fun(f, g), []nodes{f, number(), v(2)}, con("text")}, {fun(g, f), []nodes{g, v(0)}, v(1)}, {fun(fun(f, g), con("ref", g)), []nodes{fun(f, g)}, con("ref", g)},
		{data.Arrow(slices.Repeat(vars(1), 1999), v(1)), slices.Repeat(vars(1), 1999), v(1)}, {fun(refs(3997, v(0)), v(1)), []nodes{refs(3997, v(0))}, v(1)}, {fun(v(1), refs(3997, v(0))), vars(2)[1:], refs(3997, v(0))}, {refs(3999, v(0)), nil, refs(3999, v(0))},
	} {
		if args, to := data.Parts(x.t); !sameTypes(args, x.args) || !slices.Equal(to, x.to) {
			t.Errorf("Parts(%s): %d and %s", show(x.t), len(args), show(to))
		}
	}
}

// P10.3: what is no type has no parts.
func TestPartsOfNoTypes(t *testing.T) {
	f := fun(v(0), v(1))
	for _, x := range []nodes{
		nil, {}, con("->"), con("->", v(0)), con("->", v(0), v(1), v(2)), f[:2], slices.Concat(f, v(0)), v(-1), v(1<<20 + 1), con("int", v(0)), con("list", v(0)), con(""), con("ref"), nodes{{}}, nodes{{Kind: api.TypVar, Text: "->", Kids: 2}, v(0)[0], v(1)[0]}, nodes{{Kind: api.TypCon, Text: "->", Num: 1, Kids: 2}, v(0)[0], v(1)[0]}, nodes{{Kind: 99, Text: "->", Kids: 2}, v(0)[0], v(1)[0]},
		fun(v(0), con("ref")), fun(con("ref"), v(0)), fun(v(0), fun(v(1), v(-1))), fun(nil, v(0)), fun(v(0), nil), data.Arrow([]nodes{v(0), nil, v(1)}, v(2)),
		fun(refs(3998, v(0)), v(0)), refs(4000, v(0)), data.Arrow(slices.Repeat(vars(1), 2000), v(1)),
	} {
		if args, to := data.Parts(x); len(args) != 0 || len(to) != 0 {
			t.Errorf("Parts(%s): %d and %s", show(x), len(args), show(to))
		}
	}
}

// P1, P10.3: as many arguments as there may be; the time they take is about that of their nodes.
func TestArrowOfMany(t *testing.T) {
	const many = 1 << 20
	got := data.Arrow(slices.Repeat(vars(1), many), v(1))
	if len(got) != 2*many+1 || got[2*many] != v(1)[0] {
		t.Fatalf("Arrow of many: %d nodes", len(got))
	}
	pair := fun(v(0), nil)
	for at, n := range got[:2*many] {
		if n != pair[at%2] {
			t.Fatalf("Arrow of many: %s at %d", show(got[at:at+1]), at)
		}
	}
	if args, to := data.Parts(got); len(args) != 0 || len(to) != 0 {
		t.Errorf("Parts of many: %d and %s", len(args), show(to))
	}
}

// P10.3, P10.4: all small types, and Arrows of up to three of them: Parts tells what they are made of.
func TestArrowThenParts(t *testing.T) {
	types := small(3, v(0), number())
	for _, x := range types {
		args, to := data.Parts(x)
		wantArgs, wantTo := modelParts(x)
		if !sameTypes(args, wantArgs) || !slices.Equal(to, wantTo) {
			t.Fatalf("Parts(%s): %d and %s", show(x), len(args), show(to))
		}
		if back := data.Arrow(args, to); !slices.Equal(back, x) {
			t.Fatalf("Arrow of Parts(%s): %s", show(x), show(back))
		}
	}
	compare := func(to nodes, args ...nodes) {
		x := data.Arrow(args, to)
		if want := modelArrow(args, to); !slices.Equal(x, want) {
			t.Fatalf("Arrow: %s, not %s", show(x), show(want))
		}
		// A function type at the end is taken apart as well.
		moreArgs, wantTo := modelParts(to)
		wantArgs := slices.Concat(args, moreArgs)
		if gotArgs, gotTo := data.Parts(x); !sameTypes(gotArgs, wantArgs) || !slices.Equal(gotTo, wantTo) {
			t.Fatalf("Parts(%s): %d and %s", show(x), len(gotArgs), show(gotTo))
		}
	}
	few := small(2, v(0), number())
	for _, to := range types {
		compare(to)
		for _, a := range types {
			compare(to, a)
		}
	}
	for _, to := range few {
		for _, a := range few {
			for _, b := range few {
				compare(to, a, b)
				for _, c := range few {
					compare(to, a, b, c)
				}
			}
		}
	}
}

// P10.2, P10.4: the Parts of the types of constructors are their Args and the declared types.
func TestSigsThenParts(t *testing.T) {
	s := source(4)
	for range 5000 {
		l := s.world()
		sigs, _ := data.Sigs(l)
		for _, sig := range sigs {
			d, c, _ := data.Find(l, sig.Name)
			args, to := data.Parts(sig.Type)
			if want := con(l[d].Name, vars(l[d].Params)...); !sameTypes(args, l[d].Cons[c].Args) || !slices.Equal(to, want) {
				t.Fatalf("the Parts of %s: %d and %s; of %s", sig.Name, len(args), show(to), tell(l))
			}
		}
	}
}

// P1, P10.3: nodes of all kinds, compared with the model.
func TestJunk(t *testing.T) {
	s := source(5)
	types := 0
	for range 200000 {
		x, y := s.junk(), s.junk()
		args, to := data.Parts(x)
		wantArgs, wantTo := modelParts(x)
		if !sameTypes(args, wantArgs) || !slices.Equal(to, wantTo) {
			t.Fatalf("Parts(%s): %d and %s", show(x), len(args), show(to))
		}
		if len(to) > 0 {
			types++
		}
		if got, want := data.Arrow([]nodes{x, y}, x), modelArrow([]nodes{x, y}, x); !slices.Equal(got, want) {
			t.Fatalf("Arrow: %s, not %s", show(got), show(want))
		}
		l := decls(decl("A", 1, ctor("B", x), ctor("C", y)))
		check(t, l, modelCheck(l))
	}
	if types < 20000 {
		t.Errorf("only %d types", types)
	}
}
