package pat_test

import (
	"slices"
	"sync"
	"testing"

	"triglyph/api"
	"triglyph/data"
	"triglyph/pat"
	"triglyph/syn"
	"triglyph/typ"
)

// behind returns a list with one more element in its capacity that is not in the list.
func behind[T any](l []T, last T) []T { return append(slices.Clone(l), last)[:len(l)] }

// bad is what stands behind lists.
func bad() api.Node { return api.Node{Kind: 99, Text: "behind"} }

// deep returns declarations with something behind each list in them.
func deep(l []api.Data) []api.Data {
	var all []api.Data
	for _, d := range l {
		var cons []api.Ctor
		for _, c := range d.Cons {
			var args []nodes
			for _, arg := range c.Args {
				args = append(args, behind(arg, bad()))
			}
			cons = append(cons, api.Ctor{Name: c.Name, Args: behind(args, nodes{bad()})})
		}
		all = append(all, api.Data{Name: d.Name, Params: d.Params, Cons: behind(cons, ctor("behind"))})
	}
	return behind(all, decl("behind", 0))
}

// whole tells whether a list is want with something behind it.
func whole(l, want nodes) bool {
	return slices.Equal(l, want) && l[:len(l)+1][len(l)] == bad()
}

// intact tells whether l is what deep returned of want.
func intact(l, want []api.Data) bool {
	same := func(a, b api.Ctor) bool {
		return a.Name == b.Name && slices.EqualFunc(a.Args, b.Args, whole) && slices.Equal(a.Args[:len(a.Args)+1][len(a.Args)], nodes{bad()})
	}
	return l[:len(l)+1][len(l)].Name == "behind" && slices.EqualFunc(l, want, func(a, b api.Data) bool {
		return a.Name == b.Name && a.Params == b.Params && slices.EqualFunc(a.Cons, b.Cons, same) && a.Cons[:len(a.Cons)+1][len(a.Cons)].Name == "behind"
	})
}

// A use is what the calls are given.
type use struct {
	t    nodes
	pats []nodes
	v    nodes
	con  string
}

// uses are some of them, with and without errors.
func uses(t *testing.T) []use {
	return []use{
		{list(number()), readAll(t, "Nil", "Cons x (Cons 1 y)", "Cons x _", "Cons 1 _"), val(t, "Cons 2 (Cons 1 Nil)"), "Cons"},
		{list(list(number())), readAll(t, "Cons x y", "Cons (Cons 1 x) y", "Nil"), val(t, "Cons (Cons 1 Nil) Nil"), "Cons"},
		{con("Pair", con("Three"), number()), readAll(t, "Pair One x", "Pair (Both True y) 3", "Pair (Both True y) 3"), val(t, "Pair (Both True True) 3"), "Pair"},
		{con("Nest", number()), readAll(t, "Flat x", "Nest (Flat (Pair x y))"), val(t, "Nest (Flat (Pair 1 2))"), "Nest"},
		{number(), readAll(t, "1", "x", "2"), vi(2), "Nil"}, {number(), nil, vi(2), ""}, {con("Bool"), readAll(t, "1"), vf(), "True"}, {nil, []nodes{nil}, nil, ""},
	}
}

// P1: arguments stay as they are, their unused capacity included.
func TestArgumentsStay(t *testing.T) {
	l := deep(world())
	for i, x := range uses(t) {
		typ, v := behind(x.t, bad()), behind(x.v, bad())
		var pats []nodes
		for _, p := range x.pats {
			pats = append(pats, behind(p, bad()))
		}
		pats = behind(pats, nodes{bad()})
		for range 2 {
			for _, p := range pats {
				pat.Check(l, typ, p)
				pat.Match(p, v)
			}
			pat.Args(l, typ, x.con)
			pat.Has(l, typ, v)
			pat.First(pats, v)
			pat.Missing(l, typ, pats)
			pat.Useless(l, typ, pats)
		}
		if !whole(typ, x.t) || !whole(v, x.v) || !slices.EqualFunc(pats, x.pats, whole) || !slices.Equal(pats[:len(pats)+1][len(pats)], nodes{bad()}) {
			t.Errorf("%d has changed", i)
		}
	}
	if !intact(l, world()) {
		t.Error("the declarations have changed")
	}
}

// P1: results share no memory with arguments, nor with later results, nor with each other.
func TestResultsAreNew(t *testing.T) {
	l := world()
	fill := func(l nodes) {
		for i := range l[:cap(l)] {
			l[:cap(l)][i] = bad()
		}
	}
	for i, x := range uses(t) {
		args, _ := pat.Args(world(), x.t, x.con)
		missing, _, _ := pat.Missing(world(), x.t, x.pats)
		useless, _ := pat.Useless(world(), x.t, x.pats)
		for range 3 {
			got, _ := pat.Args(l, x.t, x.con)
			if !equalAll(got, args) {
				t.Errorf("later arguments of %d: %s", i, tellAll(got))
			}
			for j, arg := range got {
				if !slices.Equal(arg, args[j]) {
					t.Errorf("the arguments of %d share memory", i)
				}
				fill(arg)
			}
			if p, _, _ := pat.Missing(l, x.t, x.pats); !slices.Equal(p, missing) {
				t.Errorf("a later result for %d: %s", i, tell(p))
			} else {
				fill(p)
			}
			if got, _ := pat.Useless(l, x.t, x.pats); !slices.Equal(got, useless) {
				t.Errorf("a later result for %d: %v", i, got)
			} else {
				clear(got[:cap(got)])
			}
			for _, p := range x.pats {
				names, _ := pat.Match(p, x.v)
				again, _ := pat.Match(p, x.v)
				for j, n := range names {
					if n.Name != again[j].Name || !slices.Equal(n.Value, again[j].Value) {
						t.Errorf("the results of %s share memory", tell(p))
					}
					fill(n.Value)
				}
			}
		}
		fresh := uses(t)[i]
		if !slices.Equal(x.t, fresh.t) || !slices.Equal(x.v, fresh.v) || !equalAll(x.pats, fresh.pats) {
			t.Errorf("%d has changed", i)
		}
	}
	if !intact(deep(l), world()) {
		t.Error("the declarations have changed")
	}
}

// P1: calls at the same time do not disturb each other, even with the same arguments.
func TestTogether(t *testing.T) {
	l, all := world(), uses(t)
	var group sync.WaitGroup
	for range 8 {
		group.Go(func() {
			for range 50 {
				for i, x := range all {
					missing, is, e := pat.Missing(l, x.t, x.pats)
					again, was, fault := pat.Missing(world(), x.t, x.pats)
					if !slices.Equal(missing, again) || is != was || e != fault || pat.First(x.pats, x.v) != pat.First(x.pats, slices.Clone(x.v)) {
						t.Errorf("%d: %s, %t, %d", i, tell(missing), is, e)
					}
				}
			}
		})
	}
	group.Wait()
}

// P1: nodes of all kinds, which are seldom a type, a pattern or a value.
func TestJunk(t *testing.T) {
	s := source(6)
	node := func(kind int) api.Node {
		return api.Node{Kind: api.Kind(kind + s.below(5)), Text: pick(&s, "", "", "x", "Nil", "Cons", "List", "int", "->"), Num: int64(pick(&s, 0, 0, 0, 1, -1)), Kids: pick(&s, 0, 0, 1, 2, -1)}
	}
	list := func(kind int) nodes {
		var l nodes
		for range s.below(5) {
			l = append(l, node(kind))
		}
		return l
	}
	for range 100000 {
		l := []api.Data{world()[0]}
		if s.below(4) == 0 {
			l = append(l, decl(pick(&s, "x", "Bool", "List"), s.below(3)-1, ctor(pick(&s, "True", "Nil", ""), list(31))))
		}
		tt, p, v := pick(&s, number(), con("List", number()), list(31)), list(21), list(51)
		valid := data.Check(l) == api.OK && typ.Check(tt) == api.OK
		fits := valid && syn.Pat(p) == api.OK && modelFits(l, grow(tt), grow(p))
		want := api.ErrPatType
		if fits {
			want = api.OK
		}
		if e := pat.Check(l, tt, p); e != want {
			t.Fatalf("Check(%v, %v, %v) = %d", l, tt, p, e)
		}
		if got, is, e := pat.Missing(l, tt, []nodes{p}); e != want || is && e != api.OK || len(got) > 0 != is {
			t.Fatalf("Missing(%v, %v, %v) = %v, %t, %d", l, tt, p, got, is, e)
		}
		if got, e := pat.Useless(l, tt, []nodes{p, p}); e != want || (e == api.OK) != slices.Equal(got, []int{1}) || e != api.OK && len(got) > 0 {
			t.Fatalf("Useless(%v, %v, %v) = %v, %d", l, tt, p, got, e)
		}
		if has := pat.Has(l, tt, v); has != (valid && modelValue(v) && modelFits(l, grow(tt), grow(v))) {
			t.Fatalf("Has(%v, %v, %v) = %t", l, tt, v, has)
		}
		got, ok := pat.Match(p, v)
		if !modelValue(v) || syn.Pat(p) != api.OK {
			if ok || len(got) > 0 || pat.First([]nodes{p}, v) != -1 {
				t.Fatalf("Match(%v, %v) = %v, %t", p, v, got, ok)
			}
		} else if _, want := modelMatch(grow(p), grow(v)); ok != want {
			t.Fatalf("Match(%v, %v) = %v, %t", p, v, got, ok)
		}
		con := pick(&s, "Nil", "Cons", "True", "")
		if got, ok := pat.Args(l, tt, con); !valid && (ok || len(got) > 0) {
			t.Fatalf("Args(%v, %v, %s) = %v, %t", l, tt, con, got, ok)
		} else if valid {
			if want, is := modelArgs(l, grow(tt), con); ok != is || len(got) != len(want) {
				t.Fatalf("Args(%v, %v, %s) = %v, %t", l, tt, con, got, ok)
			}
		}
	}
}
