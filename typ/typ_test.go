package typ_test

import (
	"math"
	"regexp"
	"slices"
	"strconv"
	"strings"
	"testing"

	"triglyph/api"
	"triglyph/typ"
)

// types are types: each kind of node, the limits, and some of a fixed rule.
func types() []nodes {
	long := "X" + strings.Repeat("y", 1<<16)
	l := []nodes{
		v(0), v(1), v(1 << 20), number(), con("text"), con("ref", v(0)), con("ref", con("ref", con("text"))), fun(v(0), v(0)), fun(fun(v(0), v(1)), v(2)), fun(v(0), fun(v(1), v(2))),
		con("X"), con("X", v(0)), con("Unit"), con("Int"), con("Text"), con("Ref"), con("Ref", v(0), v(1)), con("Let"), con("A_'9z", number()), con(long), con(long, con(long)),
		con("Many", v(0), v(1), v(2), v(3), v(4), v(5), v(6), v(7)), con("Many", vars(0, 6)...), con("Same"), con("Same", con("Same"), con("Same", v(1))),
		refs(3999, v(3)), sized(3999), sized(4000), many(1999), slices.Concat(slices.Repeat(nodes{{Kind: api.TypCon, Text: "->", Kids: 2}, {Kind: api.TypVar}}, 1999), v(5)),
	}
	s := source(1)
	for range 300 {
		l = append(l, s.typ(1+s.below(5), 9))
	}
	return l
}

// noTypes are lists of nodes that are no types.
func noTypes() []nodes {
	node := func(n api.Node, kids ...nodes) nodes { return slices.Concat(nodes{n}, slices.Concat(kids...)) }
	l := []nodes{
		nil, {}, slices.Concat(v(0), v(0)), slices.Concat(number(), number()), pair(v(0), v(1))[:2], slices.Concat(pair(v(0), v(1)), v(2)),
		// Variables.
		v(-1), v(1<<20 + 1), v(math.MaxInt64), v(math.MinInt64), v(1 << 32), node(api.Node{Kind: api.TypVar, Text: "a"}), node(api.Node{Kind: api.TypVar, Kids: 1}, v(0)), node(api.Node{Kind: api.TypVar, Kids: -1}), node(api.Node{Kind: api.TypVar, Kids: math.MinInt}),
		// Numbers of kids.
		con("->"), con("->", v(0)), con("->", v(0), v(0), v(0)), con("int", v(0)), con("text", v(0)), con("text", v(0), v(0)), con("ref"), con("ref", v(0), v(0)), con("Many", vars(0, 8)...), node(api.Node{Kind: api.TypCon, Text: "X", Kids: -1}), node(api.Node{Kind: api.TypCon, Text: "X", Kids: 1}), node(api.Node{Kind: api.TypCon, Text: "X", Kids: math.MaxInt}, v(0)), node(api.Node{Kind: api.TypCon, Text: "X", Kids: 1 << 32}),
		// Numbers.
		node(api.Node{Kind: api.TypCon, Text: "int", Num: 1}), node(api.Node{Kind: api.TypCon, Text: "X", Num: -1}), node(api.Node{Kind: api.TypCon, Text: "->", Num: 1, Kids: 2}, v(0), v(0)),
		// Kinds.
		node(api.Node{}), node(api.Node{Kind: 30}), node(api.Node{Kind: 33, Text: "int"}), node(api.Node{Kind: -31}), node(api.Node{Kind: api.ExpCon, Text: "X"}), node(api.Node{Kind: api.PatAny}), node(api.Node{Kind: api.ExpInt, Num: 1}),
		// Sizes.
		refs(4000, v(0)), sized(4001), sized(10000), many(2000), slices.Repeat(v(0), 1<<20),
	}
	for _, text := range []string{"", "list", "x", "Int ", " Int", "Li st", "->>", "-", "=", "+", "1", "'a", "_", "_X", "X.Y", "X-", "É", "Xé", "X\x00", "X\n", "X\xff", "let", "(", "int'", "refs", "texts", "ints"} {
		l = append(l, con(text), con(text, v(0)), con(text, v(0), v(1)))
	}
	for _, bad := range slices.Clone(l[6:]) {
		if len(bad) < 5 {
			l = append(l, pair(bad, v(0)), pair(v(0), bad), con("ref", fun(v(1), bad)))
		}
	}
	return l
}

// P9.1: what is a type.
func TestTypes(t *testing.T) {
	for i, x := range types() {
		if e := typ.Check(x); e != api.OK {
			t.Errorf("Check of type %d: %d", i, e)
		}
	}
}

// P9.1: what is none, whatever is asked of it.
func TestNoTypes(t *testing.T) {
	for i, x := range noTypes() {
		refuse(t, "list "+strconv.Itoa(i), x)
	}
}

// refuse asks all functions about what is no type.
func refuse(t *testing.T, what string, x nodes) {
	t.Helper()
	if e := typ.Check(x); e != api.ErrTypForm {
		t.Errorf("%s: Check: %d", what, e)
	}
	if s, e := typ.Show(x); s != "" || e != api.ErrTypForm {
		t.Errorf("%s: Show: %q, %d", what, s, e)
	}
	if l := typ.Vars(x); len(l) != 0 {
		t.Errorf("%s: Vars: %v", what, l)
	}
	if l := typ.Canon(x); len(l) != 0 {
		t.Errorf("%s: Canon: %s", what, show(l))
	}
	for _, other := range []nodes{v(0), number(), x} {
		if l, e := typ.Unify(x, other); len(l) != 0 || e != api.ErrTypForm {
			t.Errorf("%s: Unify: %v, %d", what, l, e)
		}
		if l, e := typ.Unify(other, x); len(l) != 0 || e != api.ErrTypForm {
			t.Errorf("%s: Unify, second: %v, %d", what, l, e)
		}
		s := typ.NewStore(0)
		if e := s.Unify(x, other); e != api.ErrTypForm {
			t.Errorf("%s: Unify of a store: %d", what, e)
		}
		if e := s.Unify(other, x); e != api.ErrTypForm {
			t.Errorf("%s: Unify of a store, second: %d", what, e)
		}
		if l, e := s.Resolve(x); len(l) != 0 || e != api.ErrTypForm {
			t.Errorf("%s: Resolve: %s, %d", what, show(l), e)
		}
	}
}

// P9.1: which bytes the name of a type may have, and where.
func TestNames(t *testing.T) {
	for b := range 256 {
		c := string([]byte{byte(b)})
		for _, text := range []string{c, c + "a", "A" + c, "A" + c + "A", "int" + c, c + "int", "-" + c, c + ">"} {
			for kids := range 10 {
				x := con(text, vars(0, int64(kids)-1)...)
				if e := typ.Check(x); (e == api.OK) != modelCheck(x) {
					t.Errorf("%s: %d", show(x), e)
				}
			}
		}
	}
}

// P9.1: all lists of up to three nodes of some kinds, and lists of a fixed rule, compared with the model.
func TestSmallLists(t *testing.T) {
	var some nodes
	for kids := -1; kids <= 2; kids++ {
		for _, text := range []string{"", "->", "int", "ref", "List", "list"} {
			some = append(some, api.Node{Kind: api.TypVar, Text: text, Kids: kids}, api.Node{Kind: api.TypCon, Text: text, Kids: kids})
		}
		some = append(some, api.Node{Kind: api.TypVar, Num: -1, Kids: kids}, api.Node{Kind: api.TypCon, Text: "List", Num: 1, Kids: kids}, api.Node{Kind: 33, Text: "List", Kids: kids})
	}
	right := 0
	compare := func(l nodes) {
		e := typ.Check(l)
		if (e == api.OK) != modelCheck(l) || e != api.OK && e != api.ErrTypForm {
			t.Fatalf("Check(%s) = %d", show(l), e)
		}
		if e == api.OK {
			right++
		}
	}
	var longer func(l nodes, most int)
	longer = func(l nodes, most int) {
		compare(l)
		if len(l) < most {
			for _, n := range some {
				longer(append(slices.Clone(l), n), most)
			}
		}
	}
	longer(nil, 3)
	// One node: a variable, int, List. Two: ref and List of one of these. Three: -> and List of two, and one of two.
	if want := 3 + 2*3 + 2*3*3 + 2*2*3; right != want {
		t.Errorf("%d of the small lists are types, not %d", right, want)
	}
	s := source(2)
	for range 100000 {
		compare(s.junk())
	}
}

// P9.1: the texts of types.
func TestShow(t *testing.T) {
	list := con("List", v(1))
	for _, x := range []struct {
		t    nodes
		want string
	}{
		{v(0), "'0"}, {v(12), "'12"}, {v(1 << 20), "'1048576"}, {number(), "int"}, {con("text"), "text"}, {con("Unit"), "Unit"},
		{con("ref", v(0)), "ref '0"}, {con("ref", con("ref", con("text"))), "ref (ref text)"}, {con("ref", fun(v(0), v(1))), "ref ('0 -> '1)"}, {con("ref", con("Unit")), "ref Unit"},
		{fun(v(0), v(1)), "'0 -> '1"}, {fun(v(0), fun(v(1), v(0))), "'0 -> '1 -> '0"}, {fun(fun(v(0), v(1)), number()), "('0 -> '1) -> int"}, {fun(fun(fun(v(0), v(1)), v(2)), fun(v(3), v(4))), "(('0 -> '1) -> '2) -> '3 -> '4"}, {fun(fun(v(0), fun(v(1), v(2))), v(3)), "('0 -> '1 -> '2) -> '3"},
		{fun(list, con("Unit")), "List '1 -> Unit"}, {fun(con("Unit"), list), "Unit -> List '1"}, {fun(con("ref", v(0)), con("ref", number())), "ref '0 -> ref int"},
		{pair(fun(v(0), v(0)), list), "Pair ('0 -> '0) (List '1)"}, {pair(v(0), con("Unit")), "Pair '0 Unit"}, {pair(pair(v(0), v(1)), pair(v(2), v(3))), "Pair (Pair '0 '1) (Pair '2 '3)"}, {con("Many", vars(0, 7)...), "Many '0 '1 '2 '3 '4 '5 '6 '7"}, {con("Let'", number()), "Let' int"},
		{refs(3999, v(7)), "ref" + strings.Repeat(" (ref", 3998) + " '7" + strings.Repeat(")", 3998)},
	} {
		if s, e := typ.Show(x.t); s != x.want || e != api.OK {
			t.Errorf("Show: %q, %d; not %q", s, e, x.want)
		}
	}
}

// P9.1: the texts of all small types, and of greater ones, compared with the model, and read again.
func TestShowThenRead(t *testing.T) {
	for _, x := range slices.Concat(types(), small(6, v(0), v(12), number(), pair(v(1), con("Unit")))) {
		s, e := typ.Show(x)
		m, _ := modelOf(x)
		if s != m.text() || e != api.OK {
			t.Fatalf("Show(%s) = %q, %d; not %q", show(x), s, e, m.text())
		}
		if back := read(s); !slices.Equal(back, x) {
			t.Fatalf("%q is read as %s, not as %s", s, show(back), show(x))
		}
	}
}

// P9.1: the variables of types, and how they are renumbered.
func TestVarsAndCanon(t *testing.T) {
	for i, x := range []struct {
		t     nodes
		vars  []int
		canon nodes
	}{
		{number(), nil, number()},
		{fun(number(), con("Unit")), nil, fun(number(), con("Unit"))},
		{v(0), []int{0}, v(0)},
		{v(1 << 20), []int{1 << 20}, v(0)},
		{fun(v(1), v(0)), []int{1, 0}, fun(v(0), v(1))},
		{fun(v(0), v(1)), []int{0, 1}, fun(v(0), v(1))},
		{pair(v(7), fun(v(3), v(7))), []int{7, 3}, pair(v(0), fun(v(1), v(0)))},
		{pair(v(1), pair(v(2), pair(v(0), pair(v(2), v(1))))), []int{1, 2, 0}, pair(v(0), pair(v(1), pair(v(2), pair(v(1), v(0)))))},
		{con("Many", v(5), number(), v(5), con("text"), con("List", v(4)), v(5), v(9), v(4)), []int{5, 4, 9}, con("Many", v(0), number(), v(0), con("text"), con("List", v(1)), v(0), v(2), v(1))},
		{refs(3999, v(3)), []int{3}, refs(3999, v(0))},
		{tuple(slices.Repeat(vars(1000, 1000), 1999)...), []int{1000}, tuple(slices.Repeat(vars(0, 0), 1999)...)},
	} {
		if l := typ.Vars(x.t); !slices.Equal(l, x.vars) {
			t.Errorf("%d: Vars: %v, not %v", i, l, x.vars)
		}
		if c := typ.Canon(x.t); !slices.Equal(c, x.canon) {
			t.Errorf("%d: Canon: %s, not %s", i, show(c), show(x.canon))
		}
	}
	backward := vars(0, 1998)
	slices.Reverse(backward)
	if l := typ.Vars(tuple(backward...)); len(l) != 1999 || l[0] != 1998 || l[1998] != 0 {
		t.Errorf("Vars of a great type: %d", len(l))
	}
	if c := typ.Canon(tuple(backward...)); !slices.Equal(c, many(1999)) {
		t.Error("Canon of a great type")
	}
}

// P9.1: the variables of all types are those that their texts have, in order, and Canon numbers them.
func TestVarsOfTexts(t *testing.T) {
	mark := regexp.MustCompile(`\B'\d+`)
	for _, x := range slices.Concat(types(), small(6, v(5), v(1), v(12), number())) {
		s, _ := typ.Show(x)
		var want []int
		for _, w := range mark.FindAllString(s, -1) {
			if num, _ := strconv.Atoi(w[1:]); !slices.Contains(want, num) {
				want = append(want, num)
			}
		}
		if l := typ.Vars(x); !slices.Equal(l, want) {
			t.Fatalf("Vars of %s: %v, not %v", s, l, want)
		}
		renumbered := mark.ReplaceAllStringFunc(s, func(w string) string {
			num, _ := strconv.Atoi(w[1:])
			return "'" + strconv.Itoa(slices.Index(want, num))
		})
		if c := typ.Canon(x); !slices.Equal(c, read(renumbered)) {
			t.Fatalf("Canon of %s: %s, not %s", s, show(c), renumbered)
		}
	}
}

// P9.1: replacing variables, also in lists that are no types, and by such lists.
func TestApply(t *testing.T) {
	x := fun(v(1), pair(v(2), v(1)))
	odd := nodes{{Kind: api.TypVar, Num: 1, Kids: 3, Text: "a"}, {Kind: api.TypCon, Num: 1}, {Kind: api.ExpInt, Num: 1}, {Kind: api.TypVar, Num: -1}, {}}
	for i, w := range []struct {
		l       []api.Bind
		t, want nodes
	}{
		{nil, x, x},
		{nil, nil, nil},
		{[]api.Bind{{Var: 1, Type: number()}}, nil, nil},
		{[]api.Bind{{Var: 3, Type: number()}}, x, x},
		{[]api.Bind{{Var: 0, Type: con("text")}}, fun(number(), con("Unit")), fun(number(), con("Unit"))},
		{[]api.Bind{{Var: 1, Type: number()}}, x, fun(number(), pair(v(2), number()))},
		{[]api.Bind{{Var: 1, Type: number()}}, v(1), number()},
		{[]api.Bind{{Var: 2, Type: fun(v(0), v(1))}}, x, fun(v(1), pair(fun(v(0), v(1)), v(1)))},
		// The first element counts.
		{[]api.Bind{{Var: 1, Type: number()}, {Var: 1, Type: con("text")}, {Var: 2, Type: v(9)}, {Var: 1}}, x, fun(number(), pair(v(9), number()))},
		{[]api.Bind{{Var: 1}, {Var: 1, Type: number()}}, v(1), nil},
		// All at once: what a variable is replaced by is not asked again.
		{[]api.Bind{{Var: 1, Type: v(2)}, {Var: 2, Type: v(1)}}, x, fun(v(2), pair(v(1), v(2)))},
		{[]api.Bind{{Var: 1, Type: con("List", v(1))}}, x, fun(con("List", v(1)), pair(v(2), con("List", v(1))))},
		{[]api.Bind{{Var: 1, Type: v(2)}, {Var: 2, Type: v(3)}, {Var: 3, Type: number()}}, x, fun(v(2), pair(v(3), v(2)))},
		// Lists that are no types.
		{[]api.Bind{{Var: 1, Type: number()}, {Var: -1, Type: con("text")}, {Var: 0, Type: v(5)}}, odd, nodes{{Kind: api.TypCon, Text: "int"}, odd[1], odd[2], {Kind: api.TypCon, Text: "text"}, {}}},
		{[]api.Bind{{Var: 1, Type: odd}}, slices.Concat(v(1), v(2), v(1)), slices.Concat(odd, v(2), odd)},
		{[]api.Bind{{Var: 1 << 40, Type: number()}, {Var: math.MinInt, Type: v(3)}}, slices.Concat(v(1<<40), v(1<<40+1), v(math.MinInt64)), slices.Concat(number(), v(1<<40+1), v(3))},
		{[]api.Bind{{Var: 1, Type: nodes{}}}, x, slices.Delete(slices.Delete(slices.Clone(x), 4, 5), 1, 2)},
	} {
		if got := typ.Apply(w.l, w.t); !slices.Equal(got, w.want) {
			t.Errorf("%d: %s, not %s", i, show(got), show(w.want))
		}
	}
}

// P9.1: Apply compared with one variable after the other, on lists of a fixed rule.
func TestApplyLists(t *testing.T) {
	s := source(3)
	for range 20000 {
		var l []api.Bind
		for range s.below(5) {
			l = append(l, api.Bind{Var: s.below(4) - 1, Type: s.junk()})
		}
		x := s.junk()
		var want nodes
		for _, n := range x {
			at := slices.IndexFunc(l, func(b api.Bind) bool { return n.Kind == api.TypVar && int64(b.Var) == n.Num })
			if at < 0 {
				want = append(want, n)
			} else {
				want = append(want, l[at].Type...)
			}
		}
		if got := typ.Apply(l, x); !slices.Equal(got, want) {
			t.Fatalf("Apply(%v, %s) = %s", l, show(x), show(got))
		}
	}
	great := slices.Repeat(v(1), 1<<20)
	if got := typ.Apply([]api.Bind{{Var: 1, Type: fun(v(1), v(2))}}, great); len(got) != 3<<20 {
		t.Errorf("Apply to a great list: %d", len(got))
	}
	var binds []api.Bind
	for num := range 1 << 17 {
		binds = append(binds, api.Bind{Var: num, Type: number()})
	}
	if got := typ.Apply(binds, slices.Concat(vars(0, 1<<17)...)); len(got) != 1<<17+1 || got[1<<17-1] != number()[0] || got[1<<17] != v(1 << 17)[0] {
		t.Errorf("Apply of a great list: %d", len(got))
	}
}

// P1: arguments stay as they are, their unused capacity included.
func TestArgumentsStay(t *testing.T) {
	// behind returns a list with one node in its capacity that is not in the list.
	behind := func(l nodes) nodes { return slices.Concat(l, nodes{{Kind: 99, Text: "behind"}})[:len(l)] }
	a, b := behind(pair(v(0), fun(v(1), v(2)))), behind(pair(con("List", v(3)), v(0)))
	binds := []api.Bind{{Var: 1, Type: behind(fun(v(5), v(6)))}, {Var: 0, Type: behind(v(7))}, {Var: 9}}[:2]
	s := typ.NewStore(0)
	for range 2 {
		typ.Check(a)
		typ.Show(a)
		typ.Vars(a)
		typ.Canon(a)
		typ.Apply(binds, a)
		typ.Unify(a, b)
		s.Resolve(a)
		s.Unify(a, a)
		s.Unify(v(0), number())
		s.Resolve(b)
		s.Unify(a, b)
	}
	for i, x := range []struct{ l, want nodes }{{a, pair(v(0), fun(v(1), v(2)))}, {b, pair(con("List", v(3)), v(0))}, {binds[0].Type, fun(v(5), v(6))}, {binds[1].Type, v(7)}} {
		if !slices.Equal(x.l, x.want) || x.l[:len(x.l)+1][len(x.l)].Text != "behind" {
			t.Errorf("argument %d has changed: %s", i, show(x.l))
		}
	}
	if binds[0].Var != 1 || binds[1].Var != 0 || binds[:3][2].Var != 9 {
		t.Error("the list of bindings has changed", binds)
	}
}

// P1: results share no memory with arguments, nor with each other.
func TestResultsAreNew(t *testing.T) {
	x := pair(v(1), v(1))
	by := fun(v(2), v(3))
	binds := []api.Bind{{Var: 1, Type: by}}
	for i, call := range []func() nodes{
		func() nodes { return typ.Canon(x) },
		func() nodes { return typ.Apply(nil, x) },
		func() nodes { return typ.Apply(binds, x) },
		func() nodes { return typ.Apply(binds, v(1)) },
	} {
		first := call()
		want := slices.Clone(first)
		clear(first[:cap(first)])
		if second := call(); !slices.Equal(second, want) || !slices.Equal(x, pair(v(1), v(1))) || !slices.Equal(by, fun(v(2), v(3))) {
			t.Errorf("%d: a later result is %s", i, show(second))
		}
	}
	first := typ.Vars(x)
	clear(first[:cap(first)])
	if second := typ.Vars(x); !slices.Equal(second, []int{1}) {
		t.Error("a later result of Vars is", second)
	}
}
