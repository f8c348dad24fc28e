package infer_test

import (
	"slices"
	"testing"

	"triglyph/api"
	"triglyph/infer"
	"triglyph/syn"
	"triglyph/typ"
)

// P11.3: additional names in the environment, wherever they stand in it, do not change a type; nor does their order.
func TestMoreNames(t *testing.T) {
	s := source(3)
	more := []api.Sig{sig("more", v(0)), sig("More", fun(v(3), con("More", v(1)))), sig("x", word()), sig("y", v(0)), sig("*", fun(number(), number()))}
	for range 3000 {
		l := s.expression(3+s.below(6), s.typ(3), nil)
		want, fault := infer.Infer(world(), l)
		env := world()
		for _, x := range more {
			env = slices.Insert(env, s.below(len(env)+1), x)
		}
		got, e := infer.Infer(env, l)
		if e != fault || !slices.Equal(got, want) {
			t.Fatalf("%s: %d, not %d, with more names", tell(l), e, fault)
		}
		slices.Reverse(env)
		got, e = infer.Infer(env, l)
		if e != fault || !slices.Equal(got, want) {
			t.Fatalf("%s: %d, not %d, with more names the other way round", tell(l), e, fault)
		}
		// Without the names that it has not, too.
		free := syn.Free(l)
		env = slices.DeleteFunc(world(), func(x api.Sig) bool { return syn.Name(x.Name) && !slices.Contains(free, x.Name) })
		got, e = infer.Infer(env, l)
		if e != fault || !slices.Equal(got, want) {
			t.Fatalf("%s: %d, not %d, with fewer names", tell(l), e, fault)
		}
	}
}

// P11.3: the type of a function is made of that of its argument and that of its result.
func TestFunctions(t *testing.T) {
	s := source(4)
	done := 0
	for range 6000 {
		a := s.typ(3)
		l := s.expression(3+s.below(5), s.typ(2), []bound{{"arg", a}})
		env := append(world(), sig("given", a))
		to, e := infer.Infer(append(slices.Clone(env), sig("arg", a)), l)
		whole := fn("arg", ignore(app(app(name("same"), name("arg")), name("given")), l))
		got, fault := infer.Infer(env, whole)
		if e != fault {
			t.Fatalf("%s: %d, not %d", tell(whole), fault, e)
		}
		if e != api.OK {
			continue
		}
		done++
		if want := typ.Canon(fun(a, to)); !slices.Equal(got, want) {
			t.Fatalf("%s: %v, not %v", tell(whole), got, want)
		}
		if got, fault = infer.Infer(env, app(whole, name("given"))); fault != api.OK || !slices.Equal(got, to) {
			t.Fatalf("%s, applied: %d, %v, not %v", tell(whole), fault, got, to)
		}
		if got, fault = infer.Infer(env, fn("unused", name("given"))); fault != api.OK || !slices.Equal(got, fun(v(0), a)) {
			t.Fatalf("a function that returns what is given: %d, %v", fault, got)
		}
	}
	if done < 3000 {
		t.Errorf("%d functions have a type", done)
	}
}

// put returns l with each ExpVar of the name replaced.
func put(l nodes, name string, by nodes) nodes {
	var all nodes
	for _, n := range l {
		if n.Kind == api.ExpVar && n.Text == name {
			all = append(all, by...)
		} else {
			all = append(all, n)
		}
	}
	return all
}

// P11.2: what a value is bound to has the types that the value has at its place, and any other expression has one.
func TestLetIsReplaced(t *testing.T) {
	s := source(5)
	values := []struct {
		l nodes
		t nodes
	}{
		{fn("w", name("w")), fun(number(), number())}, {fn("w", name("w")), fun(con("Unit"), con("Unit"))}, {exp(api.ExpCon, "Nil"), con("List", number())}, {fn("w", exp(api.ExpCon, "Nil")), fun(number(), con("List", word()))}, {app(app(exp(api.ExpCon, "Pair"), one()), exp(api.ExpCon, "Nil")), con("Pair", number(), con("List", number()))}, {fn("w", app(app(exp(api.ExpCon, "Pair"), name("w")), name("w"))), fun(word(), con("Pair", word(), word()))}, {name("any"), number()},
	}
	done := 0
	for range 6000 {
		x := values[s.below(len(values))]
		l := s.expression(3+s.below(6), s.typ(2), []bound{{"val", x.t}})
		if !slices.Contains(syn.Free(l), "val") {
			continue
		}
		want, fault := infer.Infer(world(), put(l, "val", x.l))
		if got, e := infer.Infer(world(), let("val", x.l, l)); e != fault || !slices.Equal(got, want) {
			t.Fatalf("%s: %d, %v, not %d, %v", tell(let("val", x.l, l)), e, got, fault, want)
		}
		// What is no value has one type; if that is possible, it is no more general.
		if got, e := infer.Infer(world(), let("val", choice(x.l, x.l), l)); e == api.OK {
			done++
			if _, e := typ.Unify(got, shifted(want)); fault != api.OK || e != api.OK {
				t.Fatalf("%s: %v, and if it is no value %v", tell(let("val", x.l, l)), want, got)
			}
		}
	}
	if done < 500 {
		t.Errorf("%d have a type", done)
	}
}

// shifted returns a type with other variables.
func shifted(t nodes) nodes {
	other := slices.Clone(t)
	for i, n := range other {
		if n.Kind == api.TypVar {
			other[i].Num += 5000
		}
	}
	return other
}
