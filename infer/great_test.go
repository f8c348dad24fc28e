package infer_test

import (
	"slices"
	"strconv"
	"strings"
	"testing"

	"triglyph/api"
	"triglyph/infer"
	"triglyph/typ"
)

// greats is the world with the names of great types that a text has: each has as many nodes as its name tells.
func greats(text string) []api.Sig {
	env := append(world(), sig("drop", fun(v(0), number())), sig("K", fun(v(0), v(0), con("K", v(0)))))
	for _, n := range []int{999, 1000, 1999, 3995, 3996, 3997, 3998, 3999, 4000} {
		if g := "g" + strconv.Itoa(n); strings.Contains(text, g) {
			env = append(env, sig(g, sized(n)))
		}
	}
	return env
}

// P11.2: which types may have how many nodes, and when. Each of these has a function of a type of 4002 nodes, or of 4000.
func TestGreat(t *testing.T) {
	t.Parallel()
	for _, x := range []struct {
		text string
		want api.Errno
		size int
	}{
		// The type of the whole.
		{"g4000", api.OK, 4000}, {"fun x -> g3998", api.OK, 4000}, {"fun x -> g3999", api.ErrInferGreat, 0}, {"fun x -> g4000", api.ErrInferGreat, 0}, {"fun x -> fun y -> g3996", api.OK, 4000}, {"fun x -> fun y -> g3997", api.ErrInferGreat, 0}, {"Pair g1999 g1999", api.OK, 3999}, {"Pair g1999 g3999", api.ErrInferGreat, 0}, {"ref g3999", api.OK, 4000}, {"ref g4000", api.ErrInferGreat, 0}, {"Oct (Oct (Oct 1))", api.OK, 585}, {"Oct (Oct (Oct (Oct 1)))", api.ErrInferGreat, 0}, {"fun f -> f g3996", api.OK, 4000}, {"fun f -> f g3997", api.ErrInferGreat, 0}, {"fun f -> f g4000", api.ErrInferGreat, 0},
		// Those on the way are not resolved.
		{"(fun x -> g4000) 1", api.OK, 4000}, {"(fun x -> fun y -> fun z -> g4000) 1 2 3", api.OK, 4000}, {"drop (fun x -> g4000)", api.OK, 1}, {"drop (Oct (Oct (Oct (Oct (Oct g4000)))))", api.OK, 1}, {"drop g4000", api.OK, 1}, {"match fun x -> g4000 with _ -> 1 end", api.OK, 1}, {"match fun x -> g4000 with f -> f 1 end", api.OK, 4000}, {"match fun x -> fun y -> g4000 with f -> f 1 2 end", api.OK, 4000}, {"if 1 then (fun x -> g4000) 1 else g4000", api.OK, 4000}, {"drop (if 1 then fun x -> g4000 else fun y -> g4000)", api.OK, 1}, {"(try fun x -> g4000 with y -> fun x -> g4000) 1", api.OK, 4000}, {"drop (fun f -> f g4000)", api.OK, 1}, {"drop (fun f -> f g3999)", api.OK, 1}, {"(fun f -> f g4000) (fun x -> x)", api.OK, 4000}, {"(fun f -> f g4000) (fun x -> 1)", api.OK, 1}, {"(fun f -> fun x -> f x) (fun x -> x) g4000", api.OK, 4000}, {"drop (fun f -> f (fun x -> g4000))", api.OK, 1}, {"match Oct (Oct (Oct (Oct 1))) with Oct (Oct x) -> match x with Oct (Oct y) -> y end end", api.OK, 1},
		{"fun f -> (fun g -> g f) (fun h -> if drop (h g4000) then h 1 else 2)", api.ErrInferType, 0},
		// What clashes in the midst of them.
		{"(fun f -> f g4000) (fun x -> x + 1)", api.ErrInferType, 0}, {"if 1 then (fun x -> g4000) else (fun x -> g3999)", api.ErrInferType, 0}, {"drop (fun f -> Pair (f g4000) (f g3999))", api.ErrInferType, 0}, {"drop (fun f -> f (f g4000) + f g4000)", api.ErrInferType, 0}, {"(fun x -> g4000) 1 1", api.ErrInferType, 0}, {"drop (fun f -> f g4000 + f g4000)", api.OK, 1}, {"drop (fun f -> fun g -> f g4000 + g f + g (fun x -> 1))", api.OK, 1}, {"drop (fun f -> fun g -> f g4000 + g f + g (fun x -> 1 + x))", api.ErrInferType, 0},
		// The type of a value, when it is generalized, and of a function that may call itself.
		{"let y = g4000 in 1", api.OK, 1}, {"let y = fun x -> g3998 in 1", api.OK, 1}, {"let y = fun x -> g3999 in 1", api.ErrInferGreat, 0}, {"let y = fun x -> g4000 in y 1", api.ErrInferGreat, 0}, {"let y = Oct in y 1", api.OK, 9}, {"let y = Oct (Oct 1) in y", api.OK, 73}, {"let y = Oct (Oct (Oct (Oct 1))) in 1", api.ErrInferGreat, 0}, {"let y = fun z -> Oct (Oct (Oct (Oct z))) in 1", api.ErrInferGreat, 0}, {"drop (fun f -> let y = f g4000 in y)", api.OK, 1}, {"let y = Pair g1999 in 1", api.OK, 1}, {"let y = Pair g3999 in 1", api.ErrInferGreat, 0}, {"let y = Cons (fun x -> g4000) Nil in 1", api.ErrInferGreat, 0}, {"let y = (fun x -> g4000) 1 in y", api.OK, 4000}, {"let y = (fun z -> fun x -> g4000) 1 in 1", api.OK, 1}, {"let y = (fun z -> fun x -> g4000) 1 in y 1", api.OK, 4000}, {"let y = raise 1 in if drop (if 1 then y else fun x -> g4000) then 1 else 2", api.OK, 1},
		{"let rec f = fun x -> g3998 in 1", api.OK, 1}, {"let rec f = fun x -> g3999 in 1", api.ErrInferGreat, 0}, {"let rec f = fun x -> g4000 in f 1", api.ErrInferGreat, 0}, {"let rec f = fun x -> match f with _ -> g3998 end in f 1", api.OK, 3998},
		// The types of the names that are bound there.
		{"match fun x -> g4000 with y -> let z = 1 in 1 end", api.ErrInferGreat, 0}, {"match fun x -> g3998 with y -> let z = 1 in 1 end", api.OK, 1}, {"match fun x -> g3999 with y -> let z = 1 in 1 end", api.ErrInferGreat, 0}, {"match fun x -> g4000 with y -> let z = drop 1 in 1 end", api.OK, 1}, {"match fun x -> g4000 with y -> let z = Nil in 1 end", api.ErrInferGreat, 0}, {"match fun x -> g4000 with y -> let rec z = fun u -> u in 1 end", api.ErrInferGreat, 0}, {"let y = (fun z -> fun x -> g4000) 1 in let z = 1 in 1", api.ErrInferGreat, 0}, {"let y = (fun z -> fun x -> g3998) 1 in let z = 1 in 1", api.OK, 1}, {"match 1 with y -> let z = 1 in drop (fun x -> g4000) end", api.OK, 1}, {"match fun x -> g4000 with _ -> let z = 1 in 1 end", api.OK, 1}, {"drop (match fun x -> g4000 with y -> y | _ -> let z = 1 in raise 1 end)", api.OK, 1}, {"match Pair 1 (fun x -> g4000) with Pair a b -> let z = 1 in 1 end", api.ErrInferGreat, 0}, {"match Pair 1 (fun x -> g4000) with Pair a _ -> let z = 1 in 1 end", api.OK, 1}, {"match Pair 1 (fun x -> g4000) with a -> let z = 1 in 1 end", api.ErrInferGreat, 0}, {"match fun x -> g4000 with y -> match 1 with y -> let z = 1 in 1 end end", api.ErrInferGreat, 0}, {"drop (let y = (fun z -> fun x -> g4000) 1 in y)", api.OK, 1},
		{"drop (fun f -> if drop (f g4000) then let z = 1 in 1 else 1)", api.ErrInferGreat, 0}, {"drop (fun f -> if (let z = 1 in 1) then drop (f g4000) else 1)", api.OK, 1}, {"drop (fun f -> if (let z = f in 1) then drop (f g4000) else 1)", api.OK, 1}, {"drop (fun f -> if (let z = f in 1) then drop (f g4000) else (let z = 1 in 1))", api.ErrInferGreat, 0}, {"drop (fun f -> let z = fun x -> f in if drop (f g4000) then 1 else (let u = 1 in 1))", api.ErrInferGreat, 0}, {"drop (fun f -> let z = fun x -> f in drop (f g3997))", api.OK, 1}, {"drop (fun f -> let z = fun x -> f in if drop (f g3996) then 1 else (let u = 1 in 1))", api.OK, 1}, {"drop (fun f -> let z = fun x -> f in if drop (f g3997) then 1 else (let u = 1 in 1))", api.ErrInferGreat, 0}, {"drop (fun f -> let z = fun x -> 1 in if drop (f g3998) then 1 else (let u = 1 in 1))", api.OK, 1}, {"drop (fun f -> let z = fun x -> 1 in if drop (f g3999) then 1 else (let u = 1 in 1))", api.ErrInferGreat, 0},
		// The variables of a name become types of others, which become great in turn.
		{"drop (fun w -> fun y -> fun x -> if same x (Pair y y) then if (let z = 1 in 1) then if same y (Pair w w) then if (let z = 1 in 1) then if same w g999 then (let z = 1 in 1) else 1 else 1 else 1 else 1 else 1)", api.OK, 1}, {"drop (fun w -> fun y -> fun x -> if same x (Pair y y) then if (let z = 1 in 1) then if same y (Pair w w) then if (let z = 1 in 1) then if same w g1000 then (let z = 1 in 1) else 1 else 1 else 1 else 1 else 1)", api.ErrInferGreat, 0}, {"drop (fun w -> fun y -> fun x -> if same x (Pair y y) then if same y (Pair w w) then if (let z = 1 in 1) then if same w g1000 then 1 else (let z = 1 in 1) else 1 else 1 else 1)", api.ErrInferGreat, 0}, {"drop (fun w -> fun y -> if same y (Pair w (Pair w w)) then if (let z = y in 1) then if same w g1999 then (let z = 1 in 1) else 1 else 1 else 1)", api.ErrInferGreat, 0}, {"drop (fun w -> fun y -> if same y (Pair w w) then if (let z = y in 1) then if same w g1999 then (let z = 1 in 1) else 1 else 1 else 1)", api.OK, 1},
		// The first error counts.
		{"Pair (1 2) (let y = fun x -> g4000 in y)", api.ErrInferType, 0}, {"Pair (let y = fun x -> g4000 in y) (1 2)", api.ErrInferGreat, 0}, {"let y = fun x -> g4000 in 1 1", api.ErrInferGreat, 0}, {"let y = 1 1 in let z = fun x -> g4000 in 1", api.ErrInferType, 0}, {"(fun x -> g4000) + 1", api.ErrInferType, 0}, {"match fun x -> g4000 with y -> Pair (let z = 1 in 1) (1 1) end", api.ErrInferGreat, 0}, {"match fun x -> g4000 with y -> Pair (1 1) (let z = 1 in 1) end", api.ErrInferType, 0}, {"if (let y = fun x -> g4000 in s) then 1 else 2", api.ErrInferGreat, 0}, {"if s then (let y = fun x -> g4000 in s) else 2", api.ErrInferType, 0}, {"raise (let y = fun x -> g4000 in s)", api.ErrInferGreat, 0}, {"let rec f = fun x -> Pair (f f) g3999 in 1", api.ErrInferType, 0}, {"match 1 with Nil -> let y = fun x -> g4000 in 1 end", api.ErrInferType, 0}, {"match 1 with 1 -> s | 2 -> 2 | 3 -> let y = fun x -> g4000 in s end", api.ErrInferType, 0}, {"match 1 with 1 -> s | 2 -> s | 3 -> let y = fun x -> g4000 in 2 end", api.ErrInferGreat, 0}, {"match Nil with K (Cons 1 x) (Cons x' y) -> let z = fun x -> g4000 in 1 | Nil -> 1 end", api.ErrInferType, 0}, {"try (let y = fun x -> g4000 in 1) with z -> 1 1", api.ErrInferGreat, 0}, {"try 1 1 with z -> (let y = fun x -> g4000 in 1)", api.ErrInferType, 0},
	} {
		l := read(t, x.text)
		got, e := infer.Infer(greats(x.text), l)
		if e != x.want || len(got) != x.size {
			t.Errorf("%s: %d nodes, %d, not %d and %d", x.text, len(got), e, x.size, x.want)
		}
		if want, fault := modelInfer(greats(x.text), l); fault != x.want || len(want) != x.size {
			t.Errorf("the model of %s: %d nodes, %d", x.text, len(want), fault)
		}
	}
}

// P11.2: types that double with each name.
func TestDoubling(t *testing.T) {
	for n := range 95 {
		l := name("x0")
		for i := n; i > 0; i-- {
			x := name("x" + strconv.Itoa(i-1))
			pair := app(app(exp(api.ExpCon, "Pair"), x), x)
			if i == n {
				l = name("x" + strconv.Itoa(n))
			}
			l = match(pair, exp(api.PatVar, "x"+strconv.Itoa(i)), l)
		}
		l = let("x0", one(), l)
		got, e := infer.Infer(world(), l)
		if n <= 10 && (e != api.OK || len(got) != 1<<(n+1)-1) || n > 10 && e != api.ErrInferGreat {
			t.Errorf("doubled %d times: %d nodes, %d", n, len(got), e)
		}
		if got, e = infer.Infer(greats(""), app(name("drop"), l)); e != api.OK || !slices.Equal(got, number()) {
			t.Errorf("doubled %d times, and dropped: %d", n, e)
		}
	}
	for n := range 20 {
		l := name("f" + strconv.Itoa(n))
		for i := n; i > 0; i-- {
			f := name("f" + strconv.Itoa(i-1))
			l = let("f"+strconv.Itoa(i), fn("x", app(f, app(f, name("x")))), l)
		}
		l = let("f0", fn("x", app(app(exp(api.ExpCon, "Pair"), name("x")), name("x"))), l)
		// The type of f0 has 5 nodes, that of f1 has 9 and that of f2 33; that of f4 would have 2^17 + 1.
		got, e := infer.Infer(world(), l)
		if want := 1<<(1<<min(n, 4)+1) + 1; n <= 3 && (e != api.OK || len(got) != want) || n > 3 && e != api.ErrInferGreat {
			t.Errorf("applied twice %d times: %d nodes, %d, not %d", n, len(got), e, want)
		}
	}
}

// spending returns the world with what is needed to spend variables, and l after all but n of them are spent.
func spending(n int, l nodes) ([]api.Sig, nodes) {
	env := append(world(), sig("most", chain(2000)), sig("rest", chain(1<<20-524*2000-n)))
	use := func(g string) nodes { return let("unused", name(g), one()) }
	return env, let("unused", choice(balanced(524, use("most"), choice), use("rest")), l)
}

// P11.2: 2^20 fresh variables may be needed, and no more; each rule needs its own number of them.
func TestManyVariables(t *testing.T) {
	type needs struct {
		text string
		need int
	}
	for i, texts := range [][]needs{
		{{"1", 0}, {"s", 0}, {"any", 1}, {"Nil", 1}, {"Pair", 2}, {"fun x -> 1", 1}, {"fun x -> x", 1}, {"n + n", 2}, {"any any", 3}, {"(fun x -> x) 1", 2}, {"fun f -> f 1", 2}, {"Cons 1 Nil", 4}},
		{{"let x = 1 in x", 0}, {"let i = fun x -> x in i", 2}, {"let i = fun x -> x in i i", 4}, {"let i = (fun x -> x) (fun x -> x) in Pair i i", 7}, {"fun x -> let y = x in y", 1}, {"let rec f = fun x -> 1 in 1", 2}, {"let rec f = fun x -> x in f", 3}, {"let rec f = fun x -> f x in f", 5}},
		{{"if any then any else any", 3}, {"raise 1", 1}, {"raise raise 1", 2}, {"try 1 with x -> x", 0}, {"try any with x -> any", 2}, {"match 1 with 1 -> 1 end", 1}, {"match 1 with _ -> 1 end", 2}, {"match 1 with x -> x | 1 -> 1 | _ -> 1 end", 3}, {"match any with Nil -> 1 | Cons x _ -> 1 end", 6}, {"match any with Unit -> 1 end", 2}, {"match any with Oct (Oct _) -> any end", 6}},
	} {
		l, need := one(), 0
		for _, x := range texts {
			part := read(t, x.text)
			_, needed, e := modelNeeds(world(), part)
			if needed != x.need || e != api.OK {
				t.Errorf("%s: the model needs %d, not %d, and returns %d", x.text, needed, x.need, e)
			}
			l = ignore(part, l)
			need += x.need + 2
		}
		for _, n := range []int{need, need - 1} {
			env, all := spending(n, l)
			if _, e := infer.Infer(env, all); n == need && e != api.OK || n < need && e != api.ErrInferGreat {
				t.Errorf("%d: %d, with %d variables left, of which %d are needed", i, e, n, need)
			}
		}
	}
}

// P11.2: the same for expressions of a fixed rule.
func TestManyVariablesRandom(t *testing.T) {
	s := source(7)
	for done := 0; done < 1; {
		l := s.expression(10, s.typ(3), nil)
		_, needed, e := modelNeeds(world(), l)
		if e != api.OK || needed < 30 || needed > 500 || len(l) > 1000 {
			continue
		}
		done++
		for _, n := range []int{needed, needed - 1} {
			env, all := spending(n, l)
			if _, e := infer.Infer(env, all); n == needed && e != api.OK || n < needed && e != api.ErrInferGreat {
				t.Errorf("%s: %d, with %d variables left, of which %d are needed", tell(l), e, n, needed)
			}
		}
	}
}

// P11.2: what clashes before a variable is needed, and after it, when there is none.
func TestNoneLeft(t *testing.T) {
	for _, x := range []struct {
		text string
		want api.Errno
	}{
		{"raise s", api.ErrInferType}, {"1 1", api.ErrInferGreat},
	} {
		env, all := spending(0, read(t, x.text))
		if got, e := infer.Infer(env, all); e != x.want || len(got) != 0 {
			t.Errorf("%s: %d nodes, %d, not %d", x.text, len(got), e, x.want)
		}
	}
}

// P11.2: 2^20 variables that are all known to the store.
func TestManyUnified(t *testing.T) {
	env := append(world(), sig("g", chain(1024)))
	all := balanced(1024, name("g"), choice)
	for i, x := range []struct {
		l    nodes
		want api.Errno
		size int
	}{
		{all, api.OK, 2047},
		{fn("x", all), api.ErrInferGreat, 0},
		{let("x", all, name("x")), api.OK, 2047},
		{choice(fn("x", all), app(one(), one())), api.ErrInferGreat, 0},
		{choice(app(one(), one()), all), api.ErrInferType, 0},
	} {
		if got, e := infer.Infer(env, x.l); e != x.want || len(got) != x.size {
			t.Errorf("%d: %d nodes, %d, not %d and %d", i, len(got), e, x.size, x.want)
		}
	}
}

// P11.2: 2^20 variables in types of 4000 nodes, which functions take.
func TestManyInGreat(t *testing.T) {
	// A type of 4000 nodes with 2000 variables, and the functions of which it is the argument.
	g := chain(2000)
	g = append(nodes{{Kind: api.TypCon, Text: "Cell", Kids: 1}}, g...)
	env := []api.Sig{sig("g", g), sig("h", chain(30)), sig("drop", fun(v(0), number()))}
	drop := func(l nodes) nodes { return app(name("drop"), l) }
	// Each use needs 2002, as there are a variable of drop and one for the result, too. 51 instances of h need the rest.
	use := drop(name("g"))
	uses, rest := balanced(523, use, choice), balanced(51, name("h"), choice)
	called := app(fn("x", name("g")), one())
	given := drop(fn("f", app(name("f"), name("g"))))
	if len(g) != 4000 {
		t.Fatalf("%d nodes", len(g))
	}
	for i, x := range []struct {
		l    nodes
		want api.Errno
	}{
		{let("x", uses, rest), api.OK},
		{let("x", uses, choice(raise(one()), rest)), api.ErrInferGreat},
		{let("x", drop(fn("f", choice(app(name("f"), name("g")), balanced(522, use, choice)))), balanced(50, name("h"), choice)), api.OK},
		{let("x", balanced(523, called, choice), rest), api.OK},
		{let("x", balanced(523, called, choice), choice(raise(one()), rest)), api.ErrInferGreat},
		{balanced(498, given, choice), api.OK},
	} {
		if len(x.l) > api.MaxNodes {
			t.Fatalf("%d has %d nodes", i, len(x.l))
		}
		if _, e := infer.Infer(env, x.l); e != x.want {
			t.Errorf("%d: %d, not %d", i, e, x.want)
		}
	}
}

// packed returns a type of that many nodes, of which nearly as many are variables as may be, each of them once.
func packed(n int) nodes {
	var t nodes
	for num := int64(0); n > 0; n -= 8 {
		// The last kid of each of these, but of the last one, is the next one.
		kids, vars := 8, 7
		if n <= 9 {
			kids, vars = n-1, n-1
		}
		t = append(t, api.Node{Kind: api.TypCon, Text: "Pack", Kids: kids})
		for range vars {
			t = append(t, v(num)...)
			num++
		}
		if kids == vars {
			break
		}
	}
	return t
}

// P11.2: all 2^20 variables may be needed for something else than for those parts of functions' types that are great,
// whether these functions are dropped, called, put into other types or compared.
func TestNoVariablesForGreatParts(t *testing.T) {
	t.Parallel()
	g, put := packed(3999), fun(v(0), packed(3998))
	env := append(world(), sig("drop", fun(v(0), number())), sig("g", g), sig("put", put), sig("closed", sized(3999)), sig("pair", fun(v(0), v(0), v(0))))
	in, kept := len(typ.Vars(g)), len(typ.Vars(put))
	if len(g) != 3999 || in != 3499 || len(put) != 4000 || typ.Check(g) != api.OK || typ.Check(put) != api.OK {
		t.Fatalf("%d and %d nodes, of which %d and %d are variables", len(g), len(put), in, kept)
	}
	made, given := fn("x", name("g")), fn("f", app(name("f"), name("g")))
	both := func(a, b nodes) nodes { return app(app(name("pair"), a), b) }
	for _, x := range []struct {
		text string
		leaf nodes
		need int // of a leaf
		join func(a, b nodes) nodes
		more int // of a join
	}{
		{"dropped", ignore(made, one()), in + 3, choice, 0},
		{"dropped by a function", app(name("drop"), given), in + 4, choice, 0},
		{"called", app(made, one()), in + 2, choice, 0},
		{"compared", app(name("put"), made), in + 1 + kept + 1, choice, 0},
		{"compared by a function", app(name("put"), given), in + 2 + kept + 1, both, 3},
		{"of a type without variables", app(name("put"), fn("x", name("closed"))), 1 + kept + 1, choice, 0},
		{"taking one without variables", app(name("put"), fn("f", app(name("f"), name("closed")))), 2 + kept + 1, both, 3},
		{"taking one, and kept", app(name("put"), fn("f", app(name("f"), name("closed")))), 2 + kept + 1, func(a, b nodes) nodes { return app(app(exp(api.ExpCon, "Pair"), a), b) }, 4},
	} {
		leaves := (1<<20 - 10) / (x.need + x.more)
		all := app(name("drop"), balanced(leaves, x.leaf, x.join))
		need := leaves*x.need + (leaves-1)*x.more + 2
		for left, want := range map[int]api.Errno{1<<20 - need: api.OK, 1<<20 - need + 1: api.ErrInferGreat} {
			env, whole := slices.Clone(env), all
			for i := range 4 {
				filler := "filler" + strconv.Itoa(i)
				env = append(env, sig(filler, chain((left+i)/4)))
				whole = let("unused", name(filler), whole)
			}
			if len(whole) > api.MaxNodes {
				t.Fatalf("%s: %d nodes", x.text, len(whole))
			}
			got, e := infer.Infer(env, whole)
			if e != want || e == api.OK && !slices.Equal(got, number()) {
				t.Errorf("%s, with %d variables for others: %d, not %d", x.text, left, e, want)
			}
		}
	}
}

// P11.2: types that double with each name, and are compared where the names of one of them are in the midst of what
// the names of the other one stand for.
func TestDoublingOutOfStep(t *testing.T) {
	s := func(a nodes) nodes { return app(exp(api.ExpCon, "Some"), a) }
	twice := func(a nodes) nodes { return app(app(exp(api.ExpCon, "Pair"), a), a) }
	env := append(world(), sig("Some", fun(v(0), con("Some", v(0)))), sig("drop", fun(v(0), number())))
	const high = 30
	a, c := func(i int) nodes { return name("a" + strconv.Itoa(i)) }, func(i int) nodes { return name("c" + strconv.Itoa(i)) }
	for last, want := range map[string]api.Errno{"n": api.OK, "s": api.ErrInferType} {
		l := app(name("drop"), choice(a(high), twice(c(high))))
		for i := high; i > 0; i-- {
			l = match(s(twice(c(i-1))), exp(api.PatVar, "c"+strconv.Itoa(i)), l)
			l = match(twice(s(a(i-1))), exp(api.PatVar, "a"+strconv.Itoa(i)), l)
		}
		l = match(s(name("n")), exp(api.PatVar, "c0"), match(twice(s(name(last))), exp(api.PatVar, "a0"), l))
		if got, e := infer.Infer(env, l); e != want || e == api.OK && !slices.Equal(got, number()) {
			t.Errorf("the last is %s: %d, not %d", last, e, want)
		}
	}
}
