package infer_test

import (
	"slices"
	"sync"
	"testing"

	"triglyph/api"
	"triglyph/infer"
	"triglyph/syn"
)

// behind returns a list with one more element in its capacity that is not in the list.
func behind[T any](l []T, last T) []T { return append(slices.Clone(l), last)[:len(l)] }

// bad is what stands behind lists.
func bad() api.Node { return api.Node{Kind: 99, Text: "behind"} }

// deep returns an environment with something behind each list in it.
func deep(env []api.Sig) []api.Sig {
	var all []api.Sig
	for _, x := range env {
		all = append(all, sig(x.Name, behind(x.Type, bad())))
	}
	return behind(all, sig("behind", nil))
}

// intact tells whether env is what deep returned of want.
func intact(env, want []api.Sig) bool {
	same := func(a, b api.Sig) bool {
		return a.Name == b.Name && slices.Equal(a.Type, b.Type) && a.Type[:len(a.Type)+1][len(a.Type)] == bad()
	}
	return slices.EqualFunc(env, want, same) && env[:len(env)+1][len(env)].Name == "behind"
}

// some are expressions with and without a type.
func some() []string {
	return []string{"1", "n", "any", "Nil", "fun x -> x", "let i = fun x -> x in Pair (i 1) (i s)", "let rec f = fun x -> f x in f", "match Cons 1 Nil with Cons x m -> Pair x m | Nil -> raise 1 end", "fun r -> set r (get r)", "1 1", "x", "let y = 1 in y y", "fun x -> x x", "let y = Oct (Oct (Oct (Oct 1))) in y"}
}

// P1: arguments stay as they are, their unused capacity included.
func TestArgumentsStay(t *testing.T) {
	env := deep(world())
	for _, text := range some() {
		want := read(t, text)
		l := behind(want, bad())
		for range 2 {
			infer.Check(env)
			infer.Value(l)
			infer.Infer(env, l)
		}
		if !slices.Equal(l, want) || l[:len(l)+1][len(l)] != bad() {
			t.Errorf("%s has changed", text)
		}
	}
	if !intact(env, world()) {
		t.Error("the environment has changed")
	}
}

// P1: results share no memory with arguments, nor with later results.
func TestResultsAreNew(t *testing.T) {
	env := world()
	for _, text := range some() {
		l := read(t, text)
		want, fault := modelInfer(world(), l)
		for range 3 {
			got, e := infer.Infer(env, l)
			if e != fault || !slices.Equal(got, want) {
				t.Errorf("a later result of %s: %d", text, e)
			}
			clear(got[:cap(got)])
		}
		if !slices.Equal(l, read(t, text)) {
			t.Errorf("%s has changed", text)
		}
	}
	if !intact(deep(env), world()) {
		t.Error("the environment has changed")
	}
}

// P1: calls at the same time do not disturb each other, even with the same arguments.
func TestTogether(t *testing.T) {
	env := world()
	var all []nodes
	for _, text := range some() {
		all = append(all, read(t, text))
	}
	var group sync.WaitGroup
	for range 8 {
		group.Go(func() {
			for _, l := range slices.Concat(all, all, all) {
				got, e := infer.Infer(env, l)
				if want, fault := modelInfer(env, l); e != fault || !slices.Equal(got, want) {
					t.Errorf("%s: %d, not %d", tell(l), e, fault)
				}
			}
		})
	}
	group.Wait()
}

// P1: nodes of all kinds, which are seldom an expression, and environments of them.
func TestJunk(t *testing.T) {
	s := source(6)
	node := func() api.Node {
		return api.Node{Kind: api.Kind(s.below(40) - 1), Text: pick(&s, "", "", "x", "x", "f", "Nil", "Cons", "->", "int", "let"), Num: int64(pick(&s, 0, 0, 0, 1, -1)), Kids: pick(&s, 0, 0, 1, 2, 3, -1)}
	}
	list := func() nodes {
		var l nodes
		for range s.below(7) {
			l = append(l, node())
		}
		return l
	}
	for range 200000 {
		var env []api.Sig
		for range s.below(4) {
			x := sig(pick(&s, "x", "f", "Nil", "Cons", "in", ""), pick(&s, v(0), con("List", v(0)), number(), list()))
			env = append(env, x)
		}
		l := list()
		if e := infer.Check(env); (e == api.OK) != modelCheck(env) || e != api.OK && e != api.ErrInferEnv {
			t.Fatalf("Check of %v: %d", env, e)
		}
		if infer.Value(l) != (syn.Check(l) == api.OK && modelValue(l)) {
			t.Fatalf("Value of %v", l)
		}
		agreed(t, env, l)
	}
}

// P1, P11.2: expressions that are as great, or as deep, as they may be.
func TestLargest(t *testing.T) {
	x := name("x")
	for _, y := range []struct {
		l    nodes
		size int
	}{
		{balanced(1333, one(), choice), 1},
		{balanced(1333, x, ignore), 1},
		{balanced(2000, x, func(a, b nodes) nodes { return let("x", a, b) }), 1},
		{balanced(1333, x, func(a, b nodes) nodes { return rec("f", fn("x", a), b) }), 1},
		{balanced(1333, raise(one()), app), 1},
		{balanced(1000, x, func(a, b nodes) nodes { return app(app(name("both"), a), b) }), 1},
	} {
		env := []api.Sig{sig("x", number()), sig("both", fun(v(0), v(0), v(0)))}
		got, e := infer.Infer(env, y.l)
		if want, fault := modelInfer(env, y.l); e != fault || e != api.OK || len(got) != y.size || !slices.Equal(got, want) {
			t.Errorf("%d nodes: %d nodes, %d, not %d", len(y.l), len(got), e, fault)
		}
	}
	chain := x
	for range 99 {
		chain = fn("x", chain)
	}
	if got, e := infer.Infer(nil, chain); e != api.OK || len(got) != 199 || !slices.Equal(got[197:], nodes{v(98)[0], v(98)[0]}) {
		t.Errorf("a deep function: %d nodes, %d", len(got), e)
	}
	if got, e := infer.Infer(nil, fn("x", chain)); e != api.ErrSynTree || len(got) != 0 {
		t.Errorf("a function that is too deep: %d", e)
	}
	lets := x
	for range 97 {
		lets = let("x", fn("y", x), lets)
	}
	if got, e := infer.Infer(nil, fn("x", lets)); e != api.OK || len(got) != 2*97+3 {
		t.Errorf("deep lets: %d nodes, %d", len(got), e)
	}
}

// P11.2: a constructor of many arguments.
func TestManyArguments(t *testing.T) {
	var args, pats []nodes
	l := exp(api.ExpCon, "Many")
	for num := range 90 {
		args = append(args, v(int64(num%7)))
		pats = append(pats, exp(api.PatVar, "x"+string(rune('a'+num/26))+string(rune('a'+num%26))))
		l = app(l, name("any"))
	}
	env := []api.Sig{sig("Many", fun(append(args, con("Many", args[:7]...))...)), sig("any", v(0)), sig("Pair", fun(v(0), v(1), con("Pair", v(0), v(1))))}
	agreed(t, env, l)
	for i := range 90 {
		for _, j := range []int{0, 6, 7, 42, 89} {
			x, y := name(pats[i][0].Text), name(pats[j][0].Text)
			m := match(l, pat("Many", pats...), app(app(exp(api.ExpCon, "Pair"), x), y))
			if got, e := agreed(t, env, m); e != api.OK || len(got) != 3 || (got[1] == got[2]) != (i%7 == j%7) {
				t.Errorf("the arguments %d and %d: %v, %d", i, j, got, e)
			}
			agreed(t, env, match(l, pat("Many", pats[1:]...), x))
		}
	}
	for i := range 90 {
		if _, e := agreed(t, env, match(l, pat("Many", pats[:i]...), one())); e != api.ErrInferName {
			t.Errorf("%d arguments: %d", i, e)
		}
	}
}
