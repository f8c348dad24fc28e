package infer_test

import (
	"slices"
	"strconv"
	"testing"

	"triglyph/api"
	"triglyph/data"
	"triglyph/parse"
	"triglyph/show"
	"triglyph/tree"
)

// A nodes is a type or an expression, or what is to be none.
type nodes = []api.Node

// Types.
func v(num int64) nodes { return nodes{{Kind: api.TypVar, Num: num}} }
func con(text string, kids ...nodes) nodes {
	return tree.Make(api.Node{Kind: api.TypCon, Text: text}, kids...)
}
func number() nodes { return con("int") }
func word() nodes   { return con("text") }

// fun returns the type of a function of all these but the last, which it returns.
func fun(types ...nodes) nodes {
	last := len(types) - 1
	return data.Arrow(types[:last], types[last])
}

// sized returns a type of that many nodes without variables.
func sized(n int) nodes {
	if n%2 == 0 {
		return con("Cell", sized(n-1))
	}
	all := slices.Repeat(nodes{{Kind: api.TypCon, Text: "Pair", Kids: 2}, {Kind: api.TypCon, Text: "text"}}, n/2)
	return append(all, number()...)
}

// chain returns the type of a function of the variables from 0 to n - 2 that returns the variable n - 1.
func chain(n int) nodes {
	var types []nodes
	for num := range n {
		types = append(types, v(int64(num)))
	}
	return fun(types...)
}

// Expressions and patterns by kind.
func exp(kind api.Kind, text string, kids ...nodes) nodes {
	return tree.Make(api.Node{Kind: kind, Text: text}, kids...)
}
func one() nodes                           { return nodes{{Kind: api.ExpInt, Num: 1}} }
func name(text string) nodes               { return exp(api.ExpVar, text) }
func choice(a, b nodes) nodes              { return exp(api.ExpIf, "", one(), a, b) }
func ignore(a, b nodes) nodes              { return exp(api.ExpMatch, "", a, exp(api.PatAny, ""), b) }
func fn(text string, body nodes) nodes     { return exp(api.ExpFun, text, body) }
func app(f, a nodes) nodes                 { return exp(api.ExpApp, "", f, a) }
func let(text string, a, b nodes) nodes    { return exp(api.ExpLet, text, a, b) }
func rec(text string, a, b nodes) nodes    { return exp(api.ExpRec, text, a, b) }
func try(text string, a, b nodes) nodes    { return exp(api.ExpTry, text, a, b) }
func raise(a nodes) nodes                  { return exp(api.ExpRaise, "", a) }
func pat(text string, kids ...nodes) nodes { return exp(api.PatCon, text, kids...) }
func match(a nodes, arms ...nodes) nodes {
	return exp(api.ExpMatch, "", slices.Concat([]nodes{a}, arms)...)
}

// balanced returns n times that leaf, two by two joined.
func balanced(n int, leaf nodes, join func(a, b nodes) nodes) nodes {
	if n == 1 {
		return leaf
	}
	return join(balanced(n/2, leaf, join), balanced(n-n/2, leaf, join))
}

// sig returns a name with a type.
func sig(name string, t nodes) api.Sig { return api.Sig{Name: name, Type: t} }

// eight is a type with a variable in eight places.
func eight() nodes {
	return con("Oct", slices.Repeat([]nodes{v(0)}, 8)...)
}

// world is the environment of the examples.
func world() []api.Sig {
	list := con("List", v(0))
	return []api.Sig{
		sig("Nil", list), sig("Cons", fun(v(0), list, list)), sig("Unit", con("Unit")), sig("Pair", fun(v(0), v(1), con("Pair", v(0), v(1)))), sig("Fun", fun(fun(v(7), v(3)), con("Fun", v(3), v(7)))), sig("Oct", fun(v(0), eight())),
		sig("+", fun(number(), number(), number())), sig("cat", fun(word(), word(), word())), sig("ref", fun(v(0), con("ref", v(0)))), sig("get", fun(con("ref", v(5)), v(5))), sig("set", fun(con("ref", v(9)), v(9), number())), sig("any", v(1<<20)), sig("n", number()), sig("s", word()), sig("same", fun(v(2), v(2), number())),
	}
}

// fixes are the fixities of the examples.
func fixes() []api.Fix { return []api.Fix{{Op: "+", Level: 6, Side: -1}} }

// read returns the expression of a text.
func read(t *testing.T, text string) nodes {
	l, at, e := parse.Parse(text, fixes())
	if e != api.OK {
		t.Fatalf("%q is no expression: %d at %d", text, e, at)
	}
	return l
}

// tell tells an expression in a test's message.
func tell(l nodes) string {
	text, e := show.Flat(l, fixes())
	if e != api.OK {
		return "what is no expression: " + strconv.Itoa(int(e))
	}
	return text[:min(len(text), 2000)]
}

// A source tells numbers by a rule that is the same in each run.
type source uint32

func (s *source) below(n int) int {
	*s = *s*1664525 + 1013904223
	return int(*s>>8) % n
}

// pick tells one of these.
func pick[T any](s *source, l ...T) T { return l[s.below(len(l))] }
