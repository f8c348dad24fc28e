package infer_test

import (
	"slices"
	"strconv"
	"testing"

	"triglyph/api"
	"triglyph/syn"
	"triglyph/tree"
)

// A bound is a name, and the type that it is to have.
type bound struct {
	name string
	t    nodes
}

// typ tells a type of at most that depth without variables.
func (s *source) typ(deep int) nodes {
	if deep == 1 || s.below(3) == 0 {
		return pick(s, number(), number(), word(), con("Unit"))
	}
	a := s.typ(deep - 1)
	switch s.below(5) {
	case 0:
		return con("List", a)
	case 1:
		return con("Pair", a, s.typ(deep-1))
	case 2:
		return con("ref", a)
	}
	return fun(a, s.typ(deep-1))
}

// kid returns a kid of the root of a tree.
func kid(t nodes, i int) nodes {
	l, _ := tree.Sub(t, tree.Kids(t, 0)[i])
	return l
}

// expression tells an expression of at most that depth, which mostly has the type t, or a more general one.
func (s *source) expression(deep int, t nodes, names []bound) nodes {
	if s.below(100) == 0 {
		t = s.typ(2)
	}
	if deep <= 2 || s.below(6) == 0 {
		return s.leaf(deep, t, names)
	}
	sub := func(t nodes) nodes { return s.expression(deep-1-s.below(2), t, names) }
	under := func(t nodes, more ...bound) nodes { return s.expression(deep-1, t, slices.Concat(names, more)) }
	x, a := s.name(), s.typ(2)
	switch s.below(11) {
	case 0:
		return let(x, sub(a), under(t, bound{x, a}))
	case 1:
		f := fun(a, s.typ(2))
		y := s.name()
		return rec(x, fn(y, under(kid(f, 1), bound{x, f}, bound{y, a})), under(t, bound{x, f}))
	case 2:
		return exp(api.ExpIf, "", sub(number()), sub(t), sub(t))
	case 3:
		return try(x, sub(t), under(t, bound{x, number()}))
	case 4:
		return s.match(deep, t, names)
	case 5:
		return s.poly(deep, t, names)
	case 6:
		return raise(sub(number()))
	case 7:
		return app(sub(fun(a, t)), sub(a))
	}
	return s.leaf(deep, t, names)
}

// name tells one of a few names.
func (s *source) name() string { return pick(s, "x", "y", "z", "u", "n", "+") }

// leaf tells a name of the type t, or what its values are made of.
func (s *source) leaf(deep int, t nodes, names []bound) nodes {
	var l []nodes
	for i, x := range names {
		hidden := slices.ContainsFunc(names[i+1:], func(y bound) bool { return x.name == y.name })
		if slices.Equal(x.t, t) && !hidden {
			l = append(l, name(x.name))
		}
	}
	if len(l) > 0 && s.below(3) > 0 {
		return pick(s, l...)
	}
	sub := func(i int) nodes { return s.expression(max(deep-1, 1), kid(t, i), names) }
	switch t[0].Text {
	case "int":
		return pick(s, one(), one(), name("n"))
	case "text":
		return pick(s, exp(api.ExpText, "a"), name("s"))
	case "ref":
		return app(name("ref"), sub(0))
	case "List":
		if deep > 3 && s.below(2) == 0 {
			return app(app(exp(api.ExpCon, "Cons"), sub(0)), s.expression(deep-2, t, names))
		}
		return exp(api.ExpCon, "Nil")
	case "Pair":
		return app(app(exp(api.ExpCon, "Pair"), sub(0)), sub(1))
	case "->":
		x := s.name()
		return fn(x, s.expression(max(deep-1, 1), kid(t, 1), append(slices.Clone(names), bound{x, kid(t, 0)})))
	}
	return exp(api.ExpCon, "Unit")
}

// match tells a match of a pair or a list.
func (s *source) match(deep int, t nodes, names []bound) nodes {
	a, b := s.typ(2), s.typ(2)
	of, parts := con("Pair", a, b), []nodes{a, b}
	arms := []nodes{exp(api.PatAny, ""), s.expression(deep-2, t, names)}
	if s.below(2) == 0 {
		of, parts = con("List", a), []nodes{a, con("List", a)}
		arms = []nodes{pat("Nil"), s.expression(deep-2, t, names)}
	}
	p := exp(api.PatCon, map[string]string{"Pair": "Pair", "List": "Cons"}[of[0].Text])
	vars := slices.Clone(names)
	kids := []nodes{}
	for i, part := range parts {
		x := pick(s, "x", "y", "z") + strconv.Itoa(i)
		switch s.below(4) {
		case 0:
			kids = append(kids, pick(s, exp(api.PatAny, ""), exp(api.PatInt, "")))
		default:
			kids = append(kids, exp(api.PatVar, x))
			vars = append(vars, bound{x, part})
		}
	}
	p = pat(p[0].Text, kids...)
	return match(s.expression(deep-1, of, names), slices.Concat([]nodes{p, s.expression(deep-1, t, vars)}, arms)...)
}

// poly tells an expression of the type t that uses a name with two types, of which types may become great.
func (s *source) poly(deep int, t nodes, names []bound) nodes {
	a := s.typ(2)
	one := s.expression(deep-2, a, names)
	x := pick(s, "p", "q")
	body := s.expression(deep-1, t, names)
	used := pick(s,
		app(name(x), one),
		app(app(name(x), one), exp(api.ExpText, "a")),
		app(name(x), app(name(x), one)),
		app(app(exp(api.ExpCon, "Pair"), app(name(x), one)), app(name(x), name("s"))),
	)
	value := pick(s,
		fn("w", name("w")),
		fn("w", one),
		fn("w", app(app(exp(api.ExpCon, "Pair"), name("w")), name("w"))),
		fn("w", fn("v", name("w"))),
		fn("w", app(exp(api.ExpCon, "Oct"), app(exp(api.ExpCon, "Oct"), name("w")))),
		exp(api.ExpCon, "Oct"),
		app(exp(api.ExpCon, "Pair"), exp(api.ExpCon, "Nil")),
		app(fn("v", fn("w", name("w"))), one),
	)
	return let(x, value, pick(s, ignore(used, body), let("y'", fn("z'", used), body), let("y'", used, body), ignore(body, used)))
}

// P11.2: expressions of a fixed rule, most of which have a type, compared with the model.
func TestRandom(t *testing.T) {
	t.Parallel()
	s := source(1)
	ends := map[api.Errno]int{}
	greatest := 0
	for range 25000 {
		l := s.expression(3+s.below(8), s.typ(3), nil)
		if syn.Check(l) != api.OK {
			continue
		}
		got, e := agreed(t, world(), l)
		ends[e]++
		greatest = max(greatest, len(got))
	}
	if ends[api.OK] < 10000 || ends[api.ErrInferType] < 2000 || ends[api.ErrInferGreat] < 100 || greatest < 500 {
		t.Errorf("they end thus: %v, and the greatest type has %d nodes", ends, greatest)
	}
}
