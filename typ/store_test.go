package typ_test

import (
	"math"
	"slices"
	"strconv"
	"testing"

	"triglyph/api"
	"triglyph/typ"
)

// learn makes two types equal in a store.
func learn(t *testing.T, s *typ.Store, a, b nodes) {
	t.Helper()
	if e := s.Unify(a, b); e != api.OK {
		t.Errorf("Unify(%s, %s): %d", show(a), show(b), e)
	}
}

// known asks what a type is in a store.
func known(t *testing.T, s *typ.Store, a, want nodes) {
	t.Helper()
	if l, e := s.Resolve(a); !slices.Equal(l, want) || e != api.OK {
		t.Errorf("Resolve(%s) = %.200s, %d; not %.200s", show(a), show(l), e, show(want))
	}
}

// P9.3: fresh variables.
func TestFresh(t *testing.T) {
	for _, next := range []int{0, 1, 100, api.MaxVar - 1, api.MaxVar, api.MaxVar + 1, math.MaxInt - 3, -2, math.MinInt} {
		s, other := typ.NewStore(next), typ.NewStore(next)
		for i := range 3 {
			f := s.Fresh()
			if want := v(int64(next) + int64(i)); !slices.Equal(f, want) {
				t.Errorf("Fresh: %s, not %s", show(f), show(want))
			}
			clear(f[:cap(f)])
			// What a store is asked has nothing to do with its fresh variables.
			s.Unify(v(int64(next)+1), v(int64(next)+2))
			s.Resolve(v(int64(next) + 1))
		}
		if f := other.Fresh(); !slices.Equal(f, v(int64(next))) {
			t.Errorf("Fresh of another store: %s", show(f))
		}
	}
	s := typ.NewStore(7)
	for i := range int64(100000) {
		if f := s.Fresh(); !slices.Equal(f, v(7+i)) {
			t.Fatalf("Fresh: %s, not %d", show(f), 7+i)
		}
	}
}

// P9.3: a variable that is no type is not one of a store's, either.
func TestFreshBeyondMaxVar(t *testing.T) {
	s := typ.NewStore(api.MaxVar)
	last, beyond := s.Fresh(), s.Fresh()
	learn(t, s, last, number())
	refuse(t, "beyond MaxVar", beyond)
	for _, x := range []nodes{beyond, typ.NewStore(-1).Fresh(), con("List", beyond)} {
		if e := s.Unify(x, last); e != api.ErrTypForm {
			t.Errorf("Unify: %d", e)
		}
		if l, e := s.Resolve(x); len(l) != 0 || e != api.ErrTypForm {
			t.Errorf("Resolve: %s, %d", show(l), e)
		}
	}
	known(t, s, last, number())
}

// P9.3: what a store learns, step by step.
func TestStore(t *testing.T) {
	list := func(x nodes) nodes { return con("List", x) }
	s := typ.NewStore(100)
	all := tuple(vars(0, 7)...)
	known(t, s, all, all)
	learn(t, s, v(5), v(3))
	known(t, s, all, tuple(v(0), v(1), v(2), v(3), v(4), v(3), v(6), v(7)))
	learn(t, s, fun(v(5), v(6)), fun(v(4), list(v(3))))
	known(t, s, all, tuple(v(0), v(1), v(2), v(3), v(3), v(3), list(v(3)), v(7)))
	learn(t, s, v(6), list(v(1)))
	known(t, s, all, tuple(v(0), v(1), v(2), v(1), v(1), v(1), list(v(1)), v(7)))
	learn(t, s, v(7), v(6))
	known(t, s, v(7), list(v(1)))
	learn(t, s, list(pair(v(2), v(0))), v(7))
	known(t, s, all, tuple(v(0), pair(v(2), v(0)), v(2), pair(v(2), v(0)), pair(v(2), v(0)), pair(v(2), v(0)), list(pair(v(2), v(0))), list(pair(v(2), v(0)))))
	learn(t, s, v(0), v(2))
	learn(t, s, con("ref", v(0)), con("ref", v(0)))
	known(t, s, v(6), list(pair(v(0), v(0))))
	learn(t, s, v(2), number())
	known(t, s, fun(v(4), v(8)), fun(pair(number(), number()), v(8)))
	known(t, s, number(), number())
	f := s.Fresh()
	learn(t, s, f, f)
	learn(t, s, fun(f, v(8)), fun(v(0), f))
	known(t, s, pair(f, v(8)), pair(number(), number()))
	if e := s.Unify(v(8), v(6)); e != api.ErrTypClash {
		t.Errorf("a clash: %d", e)
	}
}

// P9.3: a clash with what is known already.
func TestStoreClash(t *testing.T) {
	list := func(x nodes) nodes { return con("List", x) }
	for i, x := range []struct{ first, then []nodes }{
		{[]nodes{v(0), number()}, []nodes{v(0), con("text")}},
		{[]nodes{v(0), number()}, []nodes{list(v(0)), list(con("text"))}},
		{[]nodes{v(0), number(), v(1), con("text")}, []nodes{v(0), v(1)}},
		{[]nodes{v(0), v(1), v(1), v(2), v(2), number()}, []nodes{con("Unit"), v(0)}},
		{[]nodes{v(0), list(v(1))}, []nodes{v(0), con("List")}},
		{[]nodes{v(0), list(v(1))}, []nodes{v(1), v(0)}},
		{[]nodes{v(0), list(v(1))}, []nodes{v(1), list(v(0))}},
		{[]nodes{v(1), list(v(0))}, []nodes{v(1), v(0)}},
		{[]nodes{v(1), list(v(0)), v(2), list(v(1)), v(3), list(v(2))}, []nodes{v(3), v(0)}},
		{[]nodes{v(1), list(v(0)), v(2), list(v(1)), v(3), list(v(2))}, []nodes{v(1), v(2)}},
		{[]nodes{v(0), list(v(1)), v(1), list(v(2)), v(2), list(v(3))}, []nodes{fun(number(), v(3)), v(0)}},
		{[]nodes{v(0), list(v(1)), v(1), list(v(2)), v(2), list(v(3))}, []nodes{v(3), pair(number(), v(0))}},
		{[]nodes{v(0), list(v(1)), v(2), list(v(3))}, []nodes{pair(v(0), v(1)), pair(v(3), v(2))}},
		{[]nodes{pair(v(0), v(1)), pair(v(2), v(3)), v(3), list(v(2))}, []nodes{v(0), v(1)}},
		{[]nodes{v(2), list(v(1)), v(0), v(1)}, []nodes{v(0), list(v(2))}},
		{[]nodes{v(0), pair(list(v(1)), v(2)), v(3), pair(v(4), list(v(1)))}, []nodes{pair(v(0), v(2)), pair(v(3), list(v(4)))}},
	} {
		s := typ.NewStore(0)
		for k := 0; k < len(x.first); k += 2 {
			learn(t, s, x.first[k], x.first[k+1])
		}
		if e := s.Unify(x.then[0], x.then[1]); e != api.ErrTypClash {
			t.Errorf("%d: %d", i, e)
		}
	}
}

// P9.3: what is no type changes nothing.
func TestStoreForm(t *testing.T) {
	s := typ.NewStore(0)
	learn(t, s, v(0), con("List", v(1)))
	for _, x := range noTypes() {
		for _, l := range [][2]nodes{{x, pair(v(0), v(1))}, {pair(v(0), v(1)), x}, {x, x}} {
			if e := s.Unify(l[0], l[1]); e != api.ErrTypForm {
				t.Errorf("Unify: %d", e)
			}
		}
		if l, e := s.Resolve(x); len(l) != 0 || e != api.ErrTypForm {
			t.Errorf("Resolve: %s, %d", show(l), e)
		}
	}
	known(t, s, pair(v(0), pair(v(1), v(2))), pair(con("List", v(1)), pair(v(1), v(2))))
	if f := s.Fresh(); !slices.Equal(f, v(0)) {
		t.Errorf("Fresh: %s", show(f))
	}
}

// P9.3: what is too great to be told is known all the same.
func TestStoreGreat(t *testing.T) {
	s := typ.NewStore(0)
	for num := range int64(3000) {
		learn(t, s, v(num+1), pair(v(num), v(num)))
	}
	known(t, s, v(10), doubled(10, v(0)))
	known(t, s, pair(v(10), v(9)), pair(doubled(10, v(0)), doubled(9, v(0))))
	for _, x := range []nodes{v(11), v(3000), pair(v(10), v(10)), pair(v(0), v(11)), tuple(vars(1000, 2500)...)} {
		if l, e := s.Resolve(x); len(l) != 0 || e != api.ErrTypGreat {
			t.Errorf("Resolve: %d nodes, %d", len(l), e)
		}
	}
	// Another one of the same form, and then both are one.
	for num := range int64(3000) {
		learn(t, s, pair(v(num+5000), v(num+5000)), v(num+5001))
	}
	learn(t, s, v(8000), v(3000))
	known(t, s, pair(v(5000), v(5001)), pair(v(0), pair(v(0), v(0))))
	learn(t, s, v(0), number())
	known(t, s, v(5003), doubled(3, number()))
	if e := s.Unify(v(5000), con("text")); e != api.ErrTypClash {
		t.Errorf("a clash: %d", e)
	}
}

// P9.3: how great a result may be.
func TestResolveGreat(t *testing.T) {
	s := typ.NewStore(0)
	learn(t, s, v(0), sized(2000))
	learn(t, s, v(1), sized(3999))
	learn(t, s, v(2), sized(4000))
	learn(t, s, v(3), v(4))
	for i, x := range []struct {
		t, want nodes
	}{
		{v(2), sized(4000)},
		{con("ref", v(1)), con("ref", sized(3999))},
		{con("ref", v(2)), nil},
		{con("Many", v(0), sized(1999)), con("Many", sized(2000), sized(1999))},
		{con("Many", sized(1999), v(0)), con("Many", sized(1999), sized(2000))},
		{con("Many", v(0), sized(2000)), nil},
		{con("Many", sized(2000), v(0)), nil},
		{pair(v(0), v(0)), nil},
		{refs(3999, v(4)), refs(3999, v(3))},
		{refs(2000, v(0)), refs(2000, sized(2000))},
		{refs(2001, v(0)), nil},
		{tuple(slices.Repeat([]nodes{v(2)}, 1999)...), nil},
	} {
		e := api.OK
		if x.want == nil {
			e = api.ErrTypGreat
		}
		if l, got := s.Resolve(x.t); !slices.Equal(l, x.want) || got != e {
			t.Errorf("%d: %d nodes, %d", i, len(l), got)
		}
	}
}

// P1, P9.3: levels of nesting, from the inside to the outside and the other way, and the circle that closes them.
func TestStoreNested(t *testing.T) {
	const deep = 1 << 16
	for _, order := range []struct {
		what     string
		from, by int64
	}{{"outwards", 0, 1}, {"inwards", deep - 1, -1}} {
		s := typ.NewStore(0)
		for i := range int64(deep) {
			num := order.from + i*order.by
			if e := s.Unify(v(num+1), con("List", v(num))); e != api.OK {
				t.Fatalf("%s, %d: %d", order.what, i, e)
			}
		}
		known(t, s, v(2), con("List", con("List", v(0))))
		if l, e := s.Resolve(v(deep)); len(l) != 0 || e != api.ErrTypGreat {
			t.Errorf("%s: %d nodes, %d", order.what, len(l), e)
		}
		if l, e := s.Resolve(v(3999)); len(l) != 4000 || e != api.OK {
			t.Errorf("%s: %d nodes, %d", order.what, len(l), e)
		}
		learn(t, s, v(0), number())
		if e := s.Unify(v(1), con("List", con("text"))); e != api.ErrTypClash {
			t.Errorf("%s, a clash: %d", order.what, e)
		}
	}
	s := typ.NewStore(0)
	for num := range int64(deep) {
		s.Unify(v(num+1), con("List", v(num)))
	}
	if e := s.Unify(v(0), con("List", v(deep))); e != api.ErrTypClash {
		t.Errorf("a circle: %d", e)
	}
}

// P1, P9.3: as many variables as there are that become one.
func TestStoreManyVariables(t *testing.T) {
	for _, by := range []int64{1, -1} {
		s := typ.NewStore(0)
		for i := range int64(api.MaxVar) {
			num := i
			if by < 0 {
				num = api.MaxVar - 1 - i
			}
			if e := s.Unify(v(num), v(num+1)); e != api.OK {
				t.Fatalf("%d: %d", num, e)
			}
		}
		known(t, s, tuple(v(api.MaxVar), v(0), v(12345)), tuple(v(0), v(0), v(0)))
		// However long the chain was: it is gone through once, not each time.
		for range 1 << 16 {
			learn(t, s, v(api.MaxVar), v(0))
		}
		learn(t, s, v(777), number())
		known(t, s, tuple(v(api.MaxVar), v(0), v(12345)), tuple(number(), number(), number()))
	}
}

// P1: a store is of no use after a clash, but it still answers.
func TestStoreAfterClash(t *testing.T) {
	s := source(5)
	for range 300 {
		store := typ.NewStore(0)
		clashes := 0
		for range 60 {
			a := s.typ(1+s.below(4), 6)
			b := s.like(a, 6)
			if e := store.Unify(a, b); e == api.ErrTypClash {
				clashes++
			} else if e != api.OK {
				t.Fatalf("Unify: %d", e)
			}
			if l, e := store.Resolve(a); len(l) == 0 && e != api.ErrTypGreat || len(l) > api.MaxNodes {
				t.Fatalf("Resolve: %d nodes, %d", len(l), e)
			}
		}
		if clashes == 0 {
			t.Error("no clash")
		}
	}
	circle := typ.NewStore(0)
	circle.Unify(v(0), con("ref", con("ref", v(0))))
	circle.Unify(v(1), con("ref", con("ref", con("ref", v(1)))))
	circle.Unify(v(0), v(1))
	if _, e := circle.Resolve(v(0)); e != api.ErrTypGreat {
		t.Errorf("a circle: %d", e)
	}
}

// P9.3, P9.4: stores that learn types of a fixed rule, compared with the model, and with what is learnt at once.
func TestStoreModel(t *testing.T) {
	s := source(6)
	longest := 0
	for range 3000 {
		store, model := typ.NewStore(0), solution{}
		var as, bs []nodes
		for step := range 12 {
			a := s.typ(1+s.below(3), 12)
			b := s.like(a, 12)
			as, bs = append(as, a), append(bs, b)
			l, once := typ.Unify(tuple(as...), tuple(bs...))
			right := model.addTypes(a, b)
			want := api.OK
			if !right {
				want = api.ErrTypClash
			}
			if e := store.Unify(a, b); e != want || once != want {
				t.Fatalf("step %d, Unify(%s, %s): %d, at once %d; not %d", step, show(a), show(b), e, once, want)
			}
			if !right {
				break
			}
			longest = max(longest, step+1)
			if want := model.binds(); !equal(l, want) {
				t.Fatalf("step %d: %s; not %s", step, tell(l), tell(want))
			}
			for _, x := range []nodes{a, b, tuple(vars(0, 12)...), s.typ(3, 13)} {
				known(t, store, x, typ.Apply(l, x))
			}
			if x, _ := store.Resolve(a); step%3 == 0 {
				learn(t, store, x, b)
			}
		}
		if t.Failed() {
			t.FailNow()
		}
	}
	if longest < 12 {
		t.Errorf("no store has learnt more than %d times", longest)
	}
}

// P9.3: all sequences of four equations of a few variables, compared with the model.
func TestStoreSmall(t *testing.T) {
	var equations [][2]nodes
	for i := range int64(3) {
		for j := range int64(3) {
			equations = append(equations, [2]nodes{v(i), con("List", v(j))})
			if i < j {
				equations = append(equations, [2]nodes{v(i), v(j)}, [2]nodes{v(2), fun(v(i), v(j))})
			}
		}
	}
	var more func(sequence [][2]nodes)
	more = func(sequence [][2]nodes) {
		store, model := typ.NewStore(0), solution{}
		for i, x := range sequence {
			want := api.OK
			if !model.addTypes(x[0], x[1]) {
				want = api.ErrTypClash
			}
			if e := store.Unify(x[0], x[1]); e != want {
				t.Fatalf("step %d of %v: %d", i, sequence, e)
			}
			if want != api.OK {
				return // nothing is promised any more
			}
		}
		for _, b := range model.binds() {
			known(t, store, v(int64(b.Var)), b.Type)
		}
		if len(sequence) < 4 && !t.Failed() {
			for _, x := range equations {
				more(append(slices.Clone(sequence), x))
			}
		}
	}
	more(nil)
}

// P1: a store keeps no memory of its arguments, and hands none out; two stores have none in common.
func TestStoreMemory(t *testing.T) {
	s, other := typ.NewStore(0), typ.NewStore(0)
	a, b := pair(v(0), con("List", v(1))), pair(fun(v(2), v(3)), v(4))
	learn(t, s, a, b)
	clear(a)
	clear(b)
	want := tuple(fun(v(2), v(3)), v(1), v(2), v(3), con("List", v(1)))
	for i := range 3 {
		x := tuple(vars(0, 4)...)
		l, e := s.Resolve(x)
		if !slices.Equal(l, want) || e != api.OK {
			t.Errorf("call %d: %s, %d", i, show(l), e)
		}
		clear(l[:cap(l)])
		if !slices.Equal(x, tuple(vars(0, 4)...)) {
			t.Error("Resolve hands out its argument")
		}
	}
	known(t, other, tuple(vars(0, 4)...), tuple(vars(0, 4)...))
	learn(t, other, v(0), number())
	known(t, s, v(0), fun(v(2), v(3)))
}

// P1: nodes of all kinds are an answer's cause, never a panic's.
func TestJunk(t *testing.T) {
	s := source(7)
	store := typ.NewStore(0)
	for i := range 200000 {
		a, b := s.junk(), s.junk()
		if modelCheck(a) && modelCheck(b) {
			ask(t, a, b)
			continue
		}
		if l, e := typ.Unify(a, b); len(l) != 0 || e != api.ErrTypForm {
			t.Fatalf("%d: Unify(%s, %s) = %s%d", i, show(a), show(b), tell(l), e)
		}
		if e := store.Unify(a, b); e != api.ErrTypForm {
			t.Fatalf("%d: Unify of a store (%s, %s) = %d", i, show(a), show(b), e)
		}
		if modelCheck(a) {
			known(t, store, a, a)
		} else if i%16 == 0 {
			refuse(t, "junk "+strconv.Itoa(i), a)
		}
	}
}
