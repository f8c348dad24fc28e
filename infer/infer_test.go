package infer_test

import (
	"slices"
	"strconv"
	"testing"

	"triglyph/api"
	"triglyph/infer"
	"triglyph/tree"
	"triglyph/typ"
)

// P11.2: the types of expressions of every kind.
func TestInfer(t *testing.T) {
	for _, x := range []struct{ text, want string }{
		// The examples of the chapter.
		{"fun x -> x", "'0 -> '0"},
		{"let i = fun x -> x in i i", "'0 -> '0"},
		// Leaves, of which those of the environment are instantiated.
		{"1", "int"}, {`"a"`, "text"}, {"n", "int"}, {"any", "'0"}, {"Nil", "List '0"}, {"Pair", "'0 -> '1 -> Pair '0 '1"}, {"Fun", "('0 -> '1) -> Fun '1 '0"}, {"set", "ref '0 -> '0 -> int"}, {"Pair any any", "Pair '0 '1"}, {"Pair Nil (Cons 1 Nil)", "Pair (List '0) (List int)"}, {"any any any 1", "'0"},
		// Functions and applications.
		{"fun x -> 1", "'0 -> int"}, {"fun x -> fun y -> x", "'0 -> '1 -> '0"}, {"fun x -> fun x -> x", "'0 -> '1 -> '1"}, {"fun f -> fun x -> f x", "('0 -> '1) -> '0 -> '1"}, {"fun f -> f 1", "(int -> '0) -> '0"}, {"fun f -> f (f 1)", "(int -> int) -> int"}, {"fun f -> fun x -> f x x", "('0 -> '0 -> '1) -> '0 -> '1"}, {"(fun x -> x) 1", "int"}, {"(fun x -> fun y -> x) 1", "'0 -> int"}, {"fun x -> fun y -> fun z -> x z (y z)", "('0 -> '1 -> '2) -> ('0 -> '1) -> '0 -> '2"},
		{"fun n -> n", "'0 -> '0"}, {"fun n -> cat n", "text -> text -> text"}, {"fun (+) -> 1 + 2", "(int -> int -> '0) -> '0"}, {"fun f -> Pair (f 1) (f 2)", "(int -> '0) -> Pair '0 '0"},
		// Let.
		{"let x = 1 in x", "int"}, {"let x = 1 in 2", "int"}, {"let n = s in n", "text"}, {"let x = n in let n = s in Pair x n", "Pair int text"}, {"let n = Pair n n in n", "Pair int int"}, {"let x = (let y = 1 in y) in x", "int"},
		{"let i = fun x -> x in Pair (i 1) (i s)", "Pair int text"}, {"let c = fun x -> fun y -> x in Pair (c 1) (c s)", "Pair ('0 -> int) ('1 -> text)"}, {"let l = Nil in Pair (Cons 1 l) (Cons s l)", "Pair (List int) (List text)"}, {"let p = Pair Nil (fun x -> x) in Pair p p", "Pair (Pair (List '0) ('1 -> '1)) (Pair (List '2) ('3 -> '3))"}, {"let p = Pair Nil in Pair (p 1) (p s)", "Pair (Pair (List '0) int) (Pair (List '1) text)"}, {"let a = any in Pair (a 1) (a s)", "Pair '0 '1"},
		// What is no value is not generalized.
		{"let r = ref Nil in let d = set r (Cons 1 Nil) in get r", "List int"}, {"let r = ref Nil in Pair r r", "Pair (ref (List '0)) (ref (List '0))"}, {"let x = any 1 in Pair x x", "Pair '0 '0"}, {"let x = raise 1 in Pair x x", "Pair '0 '0"}, {"let x = (if 1 then Nil else Nil) in Pair x x", "Pair (List '0) (List '0)"}, {"let x = (match 1 with y -> Nil end) in Pair x x", "Pair (List '0) (List '0)"}, {"let x = (try Nil with y -> Nil) in Pair x x", "Pair (List '0) (List '0)"}, {"let x = (let y = 1 in Nil) in Pair x x", "Pair (List '0) (List '0)"}, {"let x = (let rec f = fun y -> y in f) in Pair x x", "Pair ('0 -> '0) ('0 -> '0)"}, {"let x = Pair (any 1) Nil in Pair x x", "Pair (Pair '0 (List '1)) (Pair '0 (List '1))"}, {"let x = Cons (ref Nil) in x", "List (ref (List '0)) -> List (ref (List '0))"},
		// What is free in the type of a name that is bound is not generalized, and what is free in the environment is.
		{"fun x -> let y = x in Pair y y", "'0 -> Pair '0 '0"}, {"fun x -> let f = fun y -> x in Pair (f 1) (f s)", "'0 -> Pair '0 '0"}, {"fun x -> let f = fun y -> Pair x y in Pair (f 1) (f s)", "'0 -> Pair (Pair '0 int) (Pair '0 text)"}, {"fun x -> fun x -> let y = x in Pair y y", "'0 -> '1 -> Pair '1 '1"}, {"fun x -> let y = x in fun x -> let z = y in Pair z z", "'0 -> '1 -> Pair '0 '0"}, {"fun x -> let f = fun y -> if x then y else y in Pair (f 1) (f s)", "int -> Pair int text"}, {"fun x -> let f = fun y -> if same x (Pair y y) then y else y in Pair f f", "Pair '0 '0 -> Pair ('0 -> '0) ('0 -> '0)"}, {"match Pair Nil 1 with Pair l k -> let m = l in Pair m m end", "Pair (List '0) (List '0)"}, {"let r = ref Nil in let g = fun x -> Cons x (get r) in Pair g g", "Pair ('0 -> List '0) ('0 -> List '0)"}, {"fun x -> let y = (fun z -> fun u -> Pair z x) 1 in let w = y in Pair w w", "'0 -> Pair ('1 -> Pair int '0) ('1 -> Pair int '0)"},
		{"let i = fun x -> x in fun x -> let j = i in Pair (j x) (j 1)", "'0 -> Pair '0 int"},
		// Functions that may call themselves.
		{"let rec f = fun x -> f x in f", "'0 -> '1"}, {"let rec f = fun x -> x in Pair (f 1) (f s)", "Pair int text"}, {"let rec f = fun x -> f 1 in f", "int -> '0"}, {"let rec f = fun x -> if x then 1 else f (x + 1) in f", "int -> int"}, {"let rec map = fun f -> fun l -> match l with Nil -> Nil | Cons x m -> Cons (f x) (map f m) end in map", "('0 -> '1) -> List '0 -> List '1"}, {"let rec f = fun f -> f in f", "'0 -> '0"}, {"let rec n = fun s -> n s in n", "'0 -> '1"}, {"fun x -> let rec f = fun y -> x in Pair (f 1) (f s)", "'0 -> Pair '0 '0"}, {"fun x -> let rec f = fun y -> if same x y then f y else x in Pair f f", "'0 -> Pair ('0 -> '0) ('0 -> '0)"},
		// Choices, and what is raised and tried.
		{"if 1 then s else s", "text"}, {"fun x -> if x then x else 1", "int -> int"}, {"fun x -> fun y -> if 1 then x else y", "'0 -> '0 -> '0"}, {"if 1 then raise 1 else s", "text"}, {"if raise 1 then 1 else raise 2", "int"}, {"raise 1", "'0"}, {"fun x -> raise x", "int -> '0"}, {"Pair (raise 1) (raise 1)", "Pair '0 '1"}, {"raise raise 1", "'0"}, {"try 1 with x -> x", "int"}, {"try s with x -> raise x", "text"}, {"try s with s -> raise (s + 1)", "text"}, {"try raise 1 with x -> x + 1", "int"}, {"try raise 1 with x -> raise x", "'0"}, {"fun x -> try x with x -> x", "int -> int"}, {"fun x -> fun y -> try x with z -> y", "'0 -> '0 -> '0"},
		// Matches and patterns.
		{"match 1 with _ -> s end", "text"}, {"match 1 with x -> x end", "int"}, {"fun x -> match x with y -> y end", "'0 -> '0"}, {"fun x -> match x with 1 -> s | _ -> s end", "int -> text"}, {"fun x -> match x with _ -> 1 end", "'0 -> int"}, {"fun x -> match x with Nil -> 1 | Cons y m -> y end", "List int -> int"}, {"fun x -> match x with Nil -> raise 1 | Cons y m -> Pair y m end", "List '0 -> Pair '0 (List '0)"}, {"fun x -> match x with Pair a b -> Pair b a end", "Pair '0 '1 -> Pair '1 '0"}, {"fun x -> match x with Pair a (Pair b a') -> Pair a' b end", "Pair '0 (Pair '1 '2) -> Pair '2 '1"}, {"fun x -> match x with Pair 1 _ -> 1 | Pair y Nil -> y | z -> 2 end", "Pair int (List '0) -> int"}, {"fun x -> match x with Fun f -> f end", "Fun '0 '1 -> '1 -> '0"}, {"match Fun (fun x -> s) with Fun f -> f 1 end", "text"}, {"match Unit with Unit -> Unit end", "Unit"}, {"fun n -> match n with s -> s | n -> n end", "'0 -> '0"}, {"fun x -> match x with Oct y -> y end", "Oct '0 '0 '0 '0 '0 '0 '0 '0 -> '0"}, {"fun x -> match 1 with _ -> x | _ -> Nil end", "List '0 -> List '0"}, {"match raise 1 with _ -> raise 2 end", "'0"}, {"fun x -> match x with Cons (Cons y _) _ -> y | Cons Nil _ -> 1 | Nil -> 2 end", "List (List int) -> int"},
	} {
		l := read(t, x.text)
		got, e := infer.Infer(world(), l)
		if text, _ := typ.Show(got); text != x.want || e != api.OK {
			t.Errorf("%s: %s %d, not %s", x.text, text, e, x.want)
		}
		if got, e = modelInfer(world(), l); e != api.OK {
			t.Errorf("the model of %s: %d", x.text, e)
		}
	}
}

// P11.2: what has no type, and what has names that are not told.
func TestInferErrors(t *testing.T) {
	for _, x := range []struct {
		want  api.Errno
		texts []string
	}{
		{api.ErrInferName, []string{
			"x", "Foo", "y + 1", "(*) 1 2", "fun x -> y", "let x = x in 1", "let x = 1 in y", "Pair (fun x -> x) x", "try x with x -> x", "let rec f = fun x -> f y in f", "let rec f = fun x -> x in x", "match 1 with x -> x | y -> x end", "match x with x -> x end", "if 1 then 2 else Bar", "raise x",
			"match 1 with Foo -> 1 end", "match 1 with Pair Foo 1 -> 1 end", "match Nil with Cons x -> 1 end", "match Nil with Cons x y z -> 1 end", "match Nil with Cons -> 1 end", "match Nil with Nil x -> 1 end", "match Nil with Cons (Cons x) y -> 1 end", "match Unit with Oct -> 1 end", "match any with Fun f g -> 1 end",
			// It comes before the errors of inference.
			"Pair (1 1) x", "1 1 Foo", "match 1 1 with Nil x -> 1 end",
		}},
		{api.ErrInferType, []string{
			"1 2", "s 1", "Nil 1", "n n", "fun x -> x x", "1 + s", `"a" + 1`, "(+) s", "cat 1", "(fun x -> x) 1 1", "Cons 1 (Cons s Nil)", "fun x -> Cons x x", "fun f -> f f", "fun f -> fun g -> if f g then 1 else g f", "(fun f -> Pair (f 1) (f s)) (fun x -> x)", "fun (+) -> if 1 + 2 then 1 + 2 else 1 + s",
			"if s then 1 else 2", "if 1 then 1 else s", "if Nil then 1 else 2", "if (fun x -> x) then 1 else 2", "fun x -> if x then x else s", "fun x -> if 1 then x else Cons x Nil",
			"raise s", "raise Nil", "fun x -> raise (cat x x)", "try 1 with x -> s", "try s with x -> x", "try s with s -> s", "fun x -> Pair (cat x s) (try 1 with y -> x)",
			"match 1 with Nil -> 1 end", "match Nil with 1 -> 1 end", "match s with 1 -> 1 end", "match 1 with 1 -> 1 | Nil -> 2 end", "match Nil with Nil -> 1 | Cons a b -> s end", "match Nil with Nil -> 1 | Unit -> 1 end", "match Pair 1 s with Pair x x' -> x + x' end", "match Cons 1 Nil with Cons Nil _ -> 1 | _ -> 1 end", "fun x -> match x with Pair y z -> y z x end", "match 1 with x -> cat x end", "match Fun (fun x -> x + 1) with Fun f -> f s end", "fun x -> match x with Pair 1 y -> y | Pair (Pair _ _) y -> y end",
			// What is bound by a function, a pattern, or to what is no value, has one type.
			"fun f -> Pair (f 1) (f s)", "match fun x -> x with f -> Pair (f 1) (f s) end", "match Pair 1 (fun x -> x) with Pair y f -> Pair (f 1) (f s) end", "let r = ref Nil in Pair (set r (Cons 1 Nil)) (set r (Cons s Nil))", "let f = (fun x -> x) (fun x -> x) in Pair (f 1) (f s)", "let f = (fun x -> fun y -> y) 1 in Pair (f 1) (f s)", "let x = any 1 in Pair (x + 1) (cat x s)", "let p = Pair (ref Nil) 1 in match p with Pair r _ -> Pair (set r (Cons 1 Nil)) (set r (Cons s Nil)) end", "let f = (if 1 then fun x -> x else fun x -> x) in Pair (f 1) (f s)", "let f = (let y = 1 in fun x -> x) in Pair (f 1) (f s)", "let f = (try fun x -> x with y -> fun x -> x) in Pair (f 1) (f s)", "let x = raise 1 in Pair (x + 1) (cat x s)",
			"fun x -> let y = x in Pair (y + 1) (cat y s)", "fun x -> let f = fun y -> if same x y then y else y in Pair (f 1) (f s)", "match Nil with Nil -> raise 1 | Cons x _ -> let y = x in Pair (y + 1) (cat y s) end", "fun x -> let y = (fun z -> x) 1 in fun x -> let u = y in Pair (u + 1) (cat u s)", "let r = ref Nil in let q = r in Pair (set q (Cons 1 Nil)) (set q (Cons s Nil))",
			// In itself a function has one type, too.
			"let rec f = fun x -> f in f", "let rec f = fun x -> Pair (f 1) (f s) in f", "let rec f = fun x -> f x x in f", "let rec f = fun x -> x + f s in 1", "let rec f = fun x -> if f 1 then x else x in f s", "fun x -> let rec f = fun y -> if f x then y else y in Pair (f 1) (f s)", "let rec n = fun s -> s in n + 1",
			// What is bound hides what is in the environment.
			"fun n -> if cat n s then 1 else 1", "let n = s in n + 1", "match s with n -> n + 1 end", "try s with s -> cat s s", "let rec s = fun n -> n in cat s",
		}},
	} {
		for _, text := range x.texts {
			l := read(t, text)
			if got, e := infer.Infer(world(), l); len(got) != 0 || e != x.want {
				t.Errorf("%s: %d nodes, %d, not %d", text, len(got), e, x.want)
			}
			if _, e := modelInfer(world(), l); e != x.want {
				t.Errorf("the model of %s: %d, not %d", text, e, x.want)
			}
		}
	}
}

// P11.2, P1: what is no expression comes before an environment that is not valid, and that before names and types.
func TestInferOrder(t *testing.T) {
	bad := []api.Sig{sig("x", nil)}
	for i, x := range []struct {
		env  []api.Sig
		l    nodes
		want api.Errno
	}{
		{nil, nil, api.ErrSynTree},
		{bad, nil, api.ErrSynTree},
		{world(), slices.Concat(one(), one()), api.ErrSynTree},
		{world(), slices.Repeat(one(), 4001), api.ErrSynTree},
		{bad, nodes{{Kind: api.ExpInt, Text: "a"}}, api.ErrSynForm},
		{world(), exp(api.PatAny, ""), api.ErrSynForm},
		{world(), rec("f", one(), one()), api.ErrSynForm},
		{bad, name("let"), api.ErrSynName},
		{world(), exp(api.ExpCon, "x"), api.ErrSynName},
		{bad, match(one(), pat("Pair", exp(api.PatVar, "x"), exp(api.PatVar, "x")), one()), api.ErrSynTwice},
		{bad, one(), api.ErrInferEnv},
		{bad, name("x"), api.ErrInferEnv},
		{bad, name("y"), api.ErrInferEnv},
		{bad, app(one(), one()), api.ErrInferEnv},
		{nil, name("x"), api.ErrInferName},
		{nil, app(app(one(), one()), name("x")), api.ErrInferName},
		{nil, app(one(), one()), api.ErrInferType},
	} {
		if got, e := infer.Infer(x.env, x.l); len(got) != 0 || e != x.want {
			t.Errorf("%d: %d nodes, %d, not %d", i, len(got), e, x.want)
		}
	}
}

// environments are valid and other ones.
func environments() (valid, other [][]api.Sig) {
	list := con("List", v(0))
	valid = [][]api.Sig{
		nil, {}, world(), {sig("x", v(0))}, {sig("x", v(1<<20))}, {sig("x", number()), sig("X", con("X")), sig("x'", number())}, {sig("+", v(0)), sig("-", v(0)), sig("->>", number())},
		{sig("x", sized(4000))}, {sig("A", con("A", sized(3999)))}, {sig("A", fun(v(0), number(), con("int"), word(), con("ref", v(0)), con("A")))}, {sig("A", con("A", v(0), fun(v(0), v(1))))}, {sig("Nil", list), sig("Cons", fun(list, fun(list, v(0)), list))}, {sig("A", fun(v(0), fun(v(1), con("B"))))}, {sig("f", fun(con("A"), con("ref", v(0))))}, {sig("A", fun(sized(3998), con("A")))},
	}
	other = [][]api.Sig{
		{sig("", v(0))}, {sig("let", v(0))}, {sig("_", v(0))}, {sig("->", v(0))}, {sig("=", v(0))}, {sig("|", v(0))}, {sig("1", number())}, {sig("x y", number())}, {sig(" x", number())}, {sig("_x", number())}, {sig("x+", number())}, {sig("\"a\"", word())}, {sig("(", number())}, {sig("\xff", number())}, {sig("é", number())}, {sig("A B", con("A"))}, {sig("A.", con("A"))},
		{sig("x", nil)}, {sig("x", one())}, {sig("x", v(-1))}, {sig("x", v(1<<20+1))}, {sig("x", con("list"))}, {sig("x", con("ref"))}, {sig("x", slices.Concat(number(), number()))}, {sig("x", fun(v(0), v(1))[:2])}, {sig("x", sized(4001))}, {sig("A", con("A", sized(4000)))}, {sig("A", nil)}, {sig("A", fun(sized(3999), con("A")))},
		{sig("x", v(0)), sig("x", v(0))}, {sig("x", v(0)), sig("y", v(0)), sig("x", number())}, {sig("A", con("A")), sig("A", con("A"))}, append(world(), sig("Nil", con("List", v(0)))), append(world(), sig("+", v(0))),
		{sig("A", v(0))}, {sig("A", number())}, {sig("A", word())}, {sig("A", con("ref", con("A")))}, {sig("A", fun(con("A"), v(0)))}, {sig("A", fun(con("A"), number()))}, {sig("A", fun(con("A"), con("A"), word()))}, {sig("A", fun(con("A"), con("ref", v(0))))}, {sig("A", fun(con("A"), fun(con("A"), con("A"), v(0))))}, append(world(), sig("A", v(0))),
		{sig("x", v(0)), sig("A", v(0)), sig("y", v(0))}, {sig("x", v(0)), sig("y", nil)}, {sig("let", v(0)), sig("y", v(0))},
	}
	return valid, other
}

// P11.1: which environments are valid.
func TestCheck(t *testing.T) {
	valid, other := environments()
	for i, env := range valid {
		if e := infer.Check(env); e != api.OK || !modelCheck(env) {
			t.Errorf("the valid environment %d: %d", i, e)
		}
		if got, e := infer.Infer(env, one()); e != api.OK || !slices.Equal(got, number()) {
			t.Errorf("Infer in the valid environment %d: %d", i, e)
		}
	}
	for i, env := range other {
		if e := infer.Check(env); e != api.ErrInferEnv || modelCheck(env) {
			t.Errorf("the other environment %d: %d", i, e)
		}
		if got, e := infer.Infer(env, one()); e != api.ErrInferEnv || len(got) != 0 {
			t.Errorf("Infer in the other environment %d: %d nodes, %d", i, len(got), e)
		}
	}
}

// P11.1: great environments, and ones of all small types.
func TestCheckMany(t *testing.T) {
	var env []api.Sig
	for i := range 20000 {
		env = append(env, sig("x"+strconv.Itoa(i), v(int64(i))))
	}
	if e := infer.Check(env); e != api.OK {
		t.Errorf("a great environment: %d", e)
	}
	env[19999].Name = env[0].Name
	if e := infer.Check(env); e != api.ErrInferEnv {
		t.Errorf("a great environment that has a name twice: %d", e)
	}
	types := []nodes{v(0), v(1), number(), word(), con("A"), con("->"), con("B", v(0)), con("ref", v(0)), con("ref"), con("int", v(0)), nil, one()}
	for _, a := range types[:9] {
		for _, b := range types[:9] {
			types = append(types, fun(a, b), con("C", a, b), fun(a, b, a))
		}
	}
	for _, x := range types {
		for _, name := range []string{"x", "X", "+", "in", ""} {
			for _, env := range [][]api.Sig{{sig(name, x)}, {sig("x", v(0)), sig(name, x)}, {sig(name, x), sig("X", con("X"))}} {
				if e := infer.Check(env); (e == api.OK) != modelCheck(env) || e != api.OK && e != api.ErrInferEnv {
					t.Errorf("Check of %q: %d", name, e)
				}
			}
		}
	}
}

// P11.1: which expressions are values.
func TestValue(t *testing.T) {
	for _, x := range []struct {
		want  bool
		texts []string
	}{
		{true, []string{"1", `"a"`, "x", "(+)", "C", "fun x -> f x", "fun x -> let y = 1 in raise 1", "C 1", "C 1 2", "C 1 x \"a\" D (fun x -> f x)", "C (C 1 (C x))", "C C C", "Cons x Nil", "C (fun x -> raise 1) (D E)"}},
		{false, []string{"f x", "1 1", `"a" 1`, "f C", "(fun x -> x) 1", "1 + 2", "f x y", "C (f x)", "C (f x) 1", "C 1 (f x)", "C 1 (C (f x)) 2", "C (C 1 (f x))", "f 1 C", "let x = 1 in x", "let rec f = fun x -> x in f", "if 1 then 1 else 1", "match 1 with x -> 1 end", "raise 1", "try 1 with x -> 1", "C (let x = 1 in x)", "C (let rec f = fun x -> x in f)", "C (if 1 then 1 else 1)", "C (match 1 with x -> 1 end)", "C (raise 1)", "C (try 1 with x -> 1)", "(if 1 then C else C) 1", "(let x = 1 in C) 1", "(match 1 with x -> C end) 1", "raise C 1", "(raise 1) 1", "(try C with x -> C) 1"}},
	} {
		for _, text := range x.texts {
			if l := read(t, text); infer.Value(l) != x.want || modelValue(l) != x.want {
				t.Errorf("Value of %s: %t", text, infer.Value(l))
			}
		}
	}
	c := exp(api.ExpCon, "C")
	for i, l := range []nodes{nil, {}, v(0), exp(api.PatAny, ""), slices.Concat(one(), one()), app(c, c)[:2], name("C"), exp(api.ExpCon, "c"), exp(api.ExpCon, "C", c), fn("x", nil), fn("X", c), app(c, exp(api.PatAny, "")), app(c, fn("x", name("let"))), {{Kind: api.ExpInt, Num: 1 << 62}}, {{Kind: api.ExpInt, Text: "1"}}, {{Kind: 99}}, fn("x", match(c, pat("P", exp(api.PatVar, "x"), exp(api.PatVar, "x")), c))} {
		if infer.Value(l) {
			t.Errorf("%d: a value that is no expression", i)
		}
	}
	deep := c
	for range 99 {
		deep = app(deep, c)
	}
	if !infer.Value(deep) || infer.Value(app(deep, c)) {
		t.Error("a deep value, or what is too deep")
	}
	wide := balanced(2000, c, func(a, b nodes) nodes { return app(app(c, a), b) })
	if len(wide) > 4000 {
		wide = balanced(1000, c, func(a, b nodes) nodes { return app(app(c, a), b) })
	}
	if !infer.Value(wide) {
		t.Error("a wide value")
	}
}

// P11.2: types of one Text and different numbers of kids are different.
func TestNumbersOfKids(t *testing.T) {
	types := []nodes{con("T"), con("T", number()), con("T", v(0)), con("T", number(), number()), con("T", v(0), v(1), v(0)), con("T", v(0), number(), number())}
	for i, a := range types {
		for j, b := range types {
			env := []api.Sig{sig("a", a), sig("b", b)}
			want := api.ErrInferType
			if len(tree.Kids(a, 0)) == len(tree.Kids(b, 0)) {
				want = api.OK
			}
			if got, e := infer.Infer(env, choice(name("a"), name("b"))); e != want || want == api.OK && len(got) != len(a) {
				t.Errorf("%d and %d: %v, %d, not %d", i, j, got, e, want)
			}
		}
	}
}

// P11.2: a constructor without variables in its type is matched where it also was made equal to something else.
func TestConstructorsWithoutVariables(t *testing.T) {
	env := append(world(), sig("A", fun(number(), word(), number(), con("T"))))
	other := "fun x -> fun y -> fun z -> raise x"
	for _, first := range []string{"if 1 then A else " + other, "if 1 then " + other + " else A", "if 1 then A else A", "A 1 s"} {
		l := read(t, "match "+first+" with _ -> match A 1 s 2 with A x y z -> Pair (x + z) (cat y y) end end")
		if got, e := infer.Infer(env, l); e != api.OK || !slices.Equal(got, con("Pair", number(), word())) {
			t.Errorf("%s: %v, %d", first, got, e)
		}
	}
}
