package typ_test

import (
	"slices"
	"strconv"
	"testing"

	"triglyph/api"
	"triglyph/typ"
)

// tell tells the first of some bindings in a test's message.
func tell(l []api.Bind) string {
	s := strconv.Itoa(len(l)) + " bindings: "
	for _, b := range l[:min(len(l), 9)] {
		text, _ := typ.Show(b.Type)
		s += strconv.Itoa(b.Var) + " is " + text[:min(len(text), 60)] + "; "
	}
	return s
}

// equal tells whether two lists of bindings are the same.
func equal(a, b []api.Bind) bool {
	return slices.EqualFunc(a, b, func(x, y api.Bind) bool { return x.Var == y.Var && slices.Equal(x.Type, y.Type) })
}

// is returns the binding of a variable.
func is(num int, t nodes) api.Bind { return api.Bind{Var: num, Type: t} }

// both asks for a and b, and for b and a: what must be equal has no order.
func both(t *testing.T, what string, a, b nodes, want []api.Bind, wantE api.Errno) {
	t.Helper()
	for _, x := range [][2]nodes{{a, b}, {b, a}} {
		if l, e := typ.Unify(x[0], x[1]); !equal(l, want) || e != wantE {
			t.Errorf("%s: %s%d; not %s%d", what, tell(l), e, tell(want), wantE)
		}
	}
}

// P9.2: what the variables are.
func TestUnify(t *testing.T) {
	list := func(x nodes) nodes { return con("List", x) }
	for i, x := range []struct {
		a, b nodes
		want []api.Bind
	}{
		{fun(v(0), number()), fun(con("text"), v(1)), []api.Bind{is(0, con("text")), is(1, number())}},
		{number(), number(), nil}, {con("Unit"), con("Unit"), nil}, {fun(number(), con("text")), fun(number(), con("text")), nil},
		{v(0), v(0), nil}, {list(v(3)), list(v(3)), nil}, {fun(v(0), v(1)), fun(v(0), v(1)), nil},
		// The variable with the least Num remains.
		{v(3), v(1), []api.Bind{is(3, v(1))}}, {v(0), v(1 << 20), []api.Bind{is(1<<20, v(0))}}, {list(v(2)), list(v(10)), []api.Bind{is(10, v(2))}},
		{pair(v(0), v(1)), pair(v(1), v(2)), []api.Bind{is(1, v(0)), is(2, v(0))}},
		{pair(v(2), v(1)), pair(v(1), v(0)), []api.Bind{is(1, v(0)), is(2, v(0))}},
		{pair(v(5), pair(v(9), v(9))), pair(v(9), pair(v(7), v(3))), []api.Bind{is(5, v(3)), is(7, v(3)), is(9, v(3))}},
		{pair(v(4), pair(v(3), v(4))), pair(v(2), pair(v(1), v(3))), []api.Bind{is(2, v(1)), is(3, v(1)), is(4, v(1))}},
		{pair(v(0), v(1)), pair(v(1), v(0)), []api.Bind{is(1, v(0))}},
		// A variable is a type; in it no variable is replaced.
		{v(7), list(v(8)), []api.Bind{is(7, list(v(8)))}}, {v(8), list(v(7)), []api.Bind{is(8, list(v(7)))}}, {v(0), fun(v(1), v(2)), []api.Bind{is(0, fun(v(1), v(2)))}},
		{pair(v(0), con("ref", v(0))), pair(list(v(5)), v(1)), []api.Bind{is(0, list(v(5))), is(1, con("ref", list(v(5))))}},
		{pair(v(2), v(2)), pair(v(1), number()), []api.Bind{is(1, number()), is(2, number())}},
		{pair(v(0), v(1)), pair(list(v(1)), list(v(2))), []api.Bind{is(0, list(list(v(2)))), is(1, list(v(2)))}},
		{pair(v(0), v(1)), pair(list(v(4)), v(4)), []api.Bind{is(0, list(v(1))), is(4, v(1))}},
		{pair(v(3), v(3)), pair(list(v(1)), list(v(0))), []api.Bind{is(1, v(0)), is(3, list(v(0)))}},
		{pair(v(3), v(3)), pair(fun(v(1), number()), fun(con("text"), v(2))), []api.Bind{is(1, con("text")), is(2, number()), is(3, fun(con("text"), number()))}},
		{pair(pair(v(0), v(1)), v(1)), pair(v(2), con("Unit")), []api.Bind{is(1, con("Unit")), is(2, pair(v(0), con("Unit")))}},
		{con("Many", vars(0, 7)...), con("Many", vars(1, 8)...), []api.Bind{is(1, v(0)), is(2, v(0)), is(3, v(0)), is(4, v(0)), is(5, v(0)), is(6, v(0)), is(7, v(0)), is(8, v(0))}},
		{refs(3999, v(1)), refs(3999, v(0)), []api.Bind{is(1, v(0))}}, {refs(3999, v(1)), refs(3999, number()), []api.Bind{is(1, number())}}, {refs(3999, v(1)), refs(3999, v(1)), nil},
	} {
		both(t, strconv.Itoa(i), x.a, x.b, x.want, api.OK)
	}
}

// P9.2: what cannot be made equal: two TypCons differ, or a variable would be a part of itself.
func TestUnifyClash(t *testing.T) {
	list := func(x nodes) nodes { return con("List", x) }
	for i, x := range []struct{ a, b nodes }{
		{number(), con("text")}, {number(), con("Int")}, {con("Unit"), con("Units")}, {list(v(0)), con("ref", v(0))}, {list(v(0)), con("List")}, {con("Foo", v(0), v(1)), con("Foo", v(0))}, {fun(v(0), v(1)), pair(v(0), v(1))}, {fun(v(0), v(1)), number()},
		{fun(number(), v(0)), fun(con("text"), v(0))}, {fun(v(0), number()), fun(v(0), con("text"))}, {pair(v(0), v(0)), pair(number(), con("text"))}, {pair(v(0), pair(v(1), v(0))), pair(v(1), pair(number(), con("text")))}, {pair(v(0), v(0)), pair(list(v(1)), con("ref", v(1)))}, {pair(v(0), v(0)), pair(list(number()), list(list(v(1))))},
		{refs(3999, number()), refs(3999, con("text"))}, {refs(3999, number()), refs(3998, number())},
		// Parts of themselves.
		{v(0), list(v(0))}, {v(0), fun(v(0), number())}, {v(0), fun(number(), v(0))}, {v(1), pair(v(0), pair(v(0), v(1)))}, {v(0), refs(3999, v(0))}, {refs(3998, v(0)), refs(3999, v(0))},
		{pair(v(0), v(1)), pair(list(v(1)), list(v(0)))}, {pair(v(0), v(1)), pair(v(1), list(v(0)))}, {pair(v(0), v(0)), pair(v(1), list(v(1)))}, {pair(v(0), v(0)), pair(list(v(1)), list(list(v(1))))}, {pair(v(0), pair(v(1), v(0))), pair(list(v(2)), pair(list(v(2)), v(2)))},
		{tuple(v(0), v(1), v(2), v(3)), tuple(list(v(1)), list(v(2)), list(v(3)), list(v(0)))}, {tuple(v(3), v(2), v(1), v(0)), tuple(list(v(2)), list(v(1)), list(v(0)), fun(number(), v(3)))},
		// Two that are parts of themselves, and equal to each other.
		{tuple(v(0), v(1), v(0)), tuple(list(v(0)), list(v(1)), v(1))}, {tuple(v(0), v(1), v(0)), tuple(list(list(v(0))), list(list(list(v(1)))), v(1))}, {tuple(v(0), v(0), v(0)), tuple(fun(v(0), fun(v(0), v(1))), fun(fun(v(1), v(0)), v(0)), v(1))},
	} {
		both(t, strconv.Itoa(i), x.a, x.b, nil, api.ErrTypClash)
	}
}

// P9.2: how great the Types of the result may be; only they count.
func TestUnifyGreat(t *testing.T) {
	for i, x := range []struct {
		a, b nodes
		want []api.Bind
		e    api.Errno
	}{
		{v(0), sized(4000), []api.Bind{is(0, sized(4000))}, api.OK},
		{pair(v(0), v(1)), pair(sized(1999), con("Many", number(), v(0), v(0))), []api.Bind{is(0, sized(1999)), is(1, con("Many", number(), sized(1999), sized(1999)))}, api.OK},
		{pair(v(0), v(1)), pair(sized(2000), pair(v(0), v(0))), nil, api.ErrTypGreat},
		{pair(v(1), v(0)), pair(sized(2000), pair(v(1), v(1))), nil, api.ErrTypGreat},
		{tuple(v(0), v(1), v(2)), tuple(sized(2000), pair(v(0), v(0)), number()), nil, api.ErrTypGreat},
		{tuple(v(0), v(1), v(2)), tuple(refs(2010, v(3)), refs(1900, v(0)), refs(30, v(1))), []api.Bind{is(0, refs(2010, v(3))), is(1, refs(3910, v(3))), is(2, refs(3940, v(3)))}, api.OK},
		// The types are greater when they are equal than any of the result.
		{pair(v(0), pair(v(0), v(0))), pair(sized(3000), pair(v(1), v(2))), []api.Bind{is(0, sized(3000)), is(1, sized(3000)), is(2, sized(3000))}, api.OK},
		// That they cannot be made equal is told before.
		{tuple(v(0), v(1), number()), tuple(sized(2000), pair(v(0), v(0)), con("text")), nil, api.ErrTypClash},
		{tuple(number(), v(0), v(1)), tuple(con("text"), sized(2000), pair(v(0), v(0))), nil, api.ErrTypClash},
		{tuple(v(0), v(1), v(2)), tuple(sized(2000), pair(v(0), v(0)), con("ref", v(2))), nil, api.ErrTypClash},
		{tuple(v(2), v(0), v(1)), tuple(con("ref", v(2)), sized(2000), pair(v(0), v(0))), nil, api.ErrTypClash},
	} {
		both(t, strconv.Itoa(i), x.a, x.b, x.want, x.e)
	}
}

// doubled returns the type of that depth with t at all ends.
func doubled(deep int, t nodes) nodes {
	for range deep {
		t = pair(t, t)
	}
	return t
}

// doubling returns two types by which each variable from first on is twice as great as the one before, and the first
// one is t.
func doubling(first, n int64, t nodes) (as, bs []nodes) {
	as, bs = []nodes{v(first)}, []nodes{t}
	for num := first + 1; num < first+n; num++ {
		as = append(as, v(num))
		bs = append(bs, pair(v(num-1), v(num-1)))
	}
	return as, bs
}

// P1, P9.2: types that are small as long as their equal parts are not told twice.
func TestUnifyDoubling(t *testing.T) {
	as, bs := doubling(0, 11, number())
	var want []api.Bind
	for num := range 11 {
		want = append(want, is(num, doubled(num, number())))
	}
	both(t, "2047 nodes", tuple(as...), tuple(bs...), want, api.OK)
	as, bs = doubling(0, 12, number())
	both(t, "4095 nodes", tuple(as...), tuple(bs...), nil, api.ErrTypGreat)
	for _, x := range []struct {
		first, second nodes
		e             api.Errno
	}{
		{number(), v(1000), api.ErrTypGreat}, {v(1000), v(1001), api.ErrTypGreat}, {v(1000), con("List", v(1001)), api.ErrTypGreat},
		{number(), con("text"), api.ErrTypClash}, {v(1000), con("List", v(1000)), api.ErrTypClash}, {v(799), number(), api.ErrTypClash},
	} {
		two := func(n int64) (a, b nodes) {
			as, bs := doubling(0, n, x.first)
			moreAs, moreBs := doubling(500, n, x.second)
			return tuple(append(append(as, moreAs...), v(n-1))...), tuple(append(append(bs, moreBs...), v(499+n))...)
		}
		a, b := two(7)
		ask(t, a, b)
		a, b = two(300)
		both(t, "two", a, b, nil, x.e)
	}
}

// P1, P9.2: two types of one form whose parts are named at other depths: in the one it is what is in a list, in the
// other one the list.
func TestUnifyStaggered(t *testing.T) {
	list := func(x nodes) nodes { return con("List", x) }
	named := func(n int64) (a, b nodes) {
		as, bs := []nodes{v(500)}, []nodes{list(v(1000))}
		for num := range n {
			as = append(as, v(num+1), v(num+501))
			bs = append(bs, pair(list(v(num)), list(v(num))), list(pair(v(num+500), v(num+500))))
		}
		return tuple(append(as, v(n))...), tuple(append(bs, pair(v(n+499), v(n+499)))...)
	}
	for n := range int64(7) {
		a, b := named(n + 1)
		ask(t, a, b)
	}
	a, b := named(200)
	both(t, "200", a, b, nil, api.ErrTypGreat)
}

// P1, P9.2: many variables, in chains and in circles.
func TestUnifyManyVariables(t *testing.T) {
	const n = 1990
	all := vars(0, n)
	a, b := tuple(all[:n]...), tuple(all[1:]...)
	l, e := typ.Unify(a, b)
	if e != api.OK || len(l) != n {
		t.Fatalf("a chain: %d, %d", len(l), e)
	}
	for i, x := range l {
		if x.Var != i+1 || !slices.Equal(x.Type, v(0)) {
			t.Fatalf("a chain: at %d %s", i, tell(l[i:i+1]))
		}
	}
	slices.Reverse(all)
	both(t, "a chain from its end", tuple(all[:n]...), tuple(all[1:]...), l, api.OK)
	const m = 1200
	var refAs, refBs []nodes
	var want []api.Bind
	for num := range int64(m) {
		refAs = append(refAs, v(num))
		refBs = append(refBs, con("ref", v(num+1)))
		want = append(want, is(int(num), refs(m-int(num), v(m))))
	}
	both(t, "a chain of refs", tuple(refAs...), tuple(refBs...), want, api.OK)
	both(t, "a circle of refs", tuple(append(refAs, v(m))...), tuple(append(refBs, v(0))...), nil, api.ErrTypClash)
}

// ask compares Unify of two types with the model, and asks for the consequences (P9.4).
func ask(t *testing.T, a, b nodes) {
	t.Helper()
	s := solution{}
	l, e := typ.Unify(a, b)
	if !s.addTypes(a, b) {
		if len(l) != 0 || e != api.ErrTypClash {
			t.Fatalf("Unify(%s, %s) = %s%d", show(a), show(b), tell(l), e)
		}
		return
	}
	if want := s.binds(); !equal(l, want) || e != api.OK {
		t.Fatalf("Unify(%s, %s) = %s%d; not %s", show(a), show(b), tell(l), e, tell(want))
	}
	if x, y := typ.Apply(l, a), typ.Apply(l, b); !slices.Equal(x, y) || !slices.Equal(typ.Apply(l, x), x) {
		t.Fatalf("%s makes %s of %s, and %s of %s", tell(l), show(x), show(a), show(y), show(b))
	}
	if again, e := typ.Unify(typ.Apply(l, a), typ.Apply(l, b)); len(again) != 0 || e != api.OK {
		t.Fatalf("equal types need %s%d", tell(again), e)
	}
}

// P9.2, P9.4: all pairs of small types.
func TestUnifySmall(t *testing.T) {
	all := small(5, v(0), v(1), v(2), number())
	for _, a := range all {
		for _, b := range all {
			ask(t, a, b)
		}
	}
}

// P9.2, P9.4: pairs of greater types, most of them nearly of one form.
func TestUnifyGreater(t *testing.T) {
	s := source(4)
	for range 30000 {
		a := s.typ(1+s.below(5), 6)
		b := s.typ(1+s.below(4), 6)
		if s.below(4) > 0 {
			b = s.like(a, 6)
			a = s.like(a, 6)
		}
		ask(t, a, b)
	}
}

// P1: the Types of a result share no memory with each other, nor with the arguments.
func TestBindsAreNew(t *testing.T) {
	part := con("List", v(9))
	a, b := tuple(v(0), v(0), v(0), part), tuple(v(1), part, v(2), v(3))
	want := []api.Bind{is(0, part), is(1, part), is(2, part), is(3, part)}
	for i := range want {
		l, e := typ.Unify(a, b)
		if !equal(l, want) || e != api.OK {
			t.Fatalf("%s%d", tell(l), e)
		}
		clear(l[i].Type[:cap(l[i].Type)])
		l[i].Type = part
		if !equal(l, want) || !slices.Equal(a, tuple(v(0), v(0), v(0), part)) || !slices.Equal(b, tuple(v(1), part, v(2), v(3))) {
			t.Errorf("changing the Type %d changes others", i)
		}
	}
}
