package pat_test

import (
	"slices"
	"strconv"
	"testing"

	"triglyph/api"
	"triglyph/parse"
	"triglyph/tree"
)

// A nodes is a type, a pattern or a value, or what is to be none.
type nodes = []api.Node

// Types.
func v(num int64) nodes { return nodes{{Kind: api.TypVar, Num: num}} }
func con(text string, kids ...nodes) nodes {
	return tree.Make(api.Node{Kind: api.TypCon, Text: text}, kids...)
}
func number() nodes        { return con("int") }
func word() nodes          { return con("text") }
func list(t nodes) nodes   { return con("List", t) }
func fun(a, b nodes) nodes { return con("->", a, b) }

// Declarations.
func ctor(name string, args ...nodes) api.Ctor { return api.Ctor{Name: name, Args: args} }
func decl(name string, params int, cons ...api.Ctor) api.Data {
	return api.Data{Name: name, Params: params, Cons: cons}
}

// world has the declarations of the examples.
func world() []api.Data {
	return []api.Data{
		decl("List", 1, ctor("Nil"), ctor("Cons", v(0), list(v(0)))),
		decl("Bool", 0, ctor("True"), ctor("False")),
		decl("Pair", 2, ctor("Pair", v(0), v(1))),
		decl("Swap", 2, ctor("Swap", con("Pair", v(1), v(0))), ctor("Same", v(0))),
		decl("Three", 0, ctor("One"), ctor("Two"), ctor("Both", con("Bool"), con("Bool"))),
		decl("Tree", 1, ctor("Fork", con("Tree", v(0)), v(0), con("Tree", v(0))), ctor("Leaf")),
		decl("Nest", 1, ctor("Flat", v(0)), ctor("Nest", con("Nest", con("Pair", v(0), v(0))))),
		decl("Loop", 0, ctor("Loop", con("Loop"))),
		decl("Odd", 3, ctor("Odd", fun(v(2), v(2)), con("ref", v(0)), word(), number())),
		decl("Some", 1, ctor("Some", v(0)), ctor("None")),
		decl("Eight", 0, ctor("Eight", slices.Repeat([]nodes{con("Bool")}, 8)...)),
	}
}

// Patterns and values by kind.
func node(kind api.Kind, text string, kids ...nodes) nodes {
	return tree.Make(api.Node{Kind: kind, Text: text}, kids...)
}
func wild() nodes                         { return node(api.PatAny, "") }
func name(text string) nodes              { return node(api.PatVar, text) }
func exact(num int64) nodes               { return nodes{{Kind: api.PatInt, Num: num}} }
func pc(text string, kids ...nodes) nodes { return node(api.PatCon, text, kids...) }
func vc(text string, kids ...nodes) nodes { return node(api.ValCon, text, kids...) }
func vi(num int64) nodes                  { return nodes{{Kind: api.ValInt, Num: num}} }
func vt(text string) nodes                { return node(api.ValText, text) }
func vf() nodes                           { return node(api.ValFun, "") }

// exp returns the expression of a text.
func exp(t *testing.T, text string) nodes {
	t.Helper()
	l, at, e := parse.Parse(text, nil)
	if e != api.OK {
		t.Fatalf("%q is no expression: %d at %d", text, e, at)
	}
	return l
}

// read returns the pattern of a text.
func read(t *testing.T, text string) nodes {
	t.Helper()
	l := exp(t, "match 0 with "+text+" -> 0 end")
	p, _ := tree.Sub(l, 2)
	return p
}

// readAll returns the patterns of some texts.
func readAll(t *testing.T, texts ...string) []nodes {
	t.Helper()
	var all []nodes
	for _, text := range texts {
		all = append(all, read(t, text))
	}
	return all
}

// val returns the value of a text: of numbers, texts, constructors, and functions, which are names.
func val(t *testing.T, text string) nodes {
	t.Helper()
	return valueOf(exp(t, text))
}

// valueOf returns the value of an expression.
func valueOf(l nodes) nodes {
	n := l[0]
	switch n.Kind {
	case api.ExpInt:
		return vi(n.Num)
	case api.ExpText:
		return vt(n.Text)
	case api.ExpCon:
		return vc(n.Text)
	case api.ExpApp:
		end := tree.End(l, 1)
		f := valueOf(l[1:end])
		f[0].Kids++
		return append(f, valueOf(l[end:])...)
	}
	return vf()
}

// tell tells a type, a pattern or a value in a test's message.
func tell(l nodes) string {
	if len(l) > 400 {
		return strconv.Itoa(len(l)) + " nodes"
	}
	text := ""
	for _, n := range l {
		if n.Kids > 0 {
			text += "(" + strconv.Itoa(n.Kids) + ")"
		}
		switch n.Kind {
		case api.PatAny:
			text += "_ "
		case api.PatInt, api.ValInt, api.TypVar:
			text += strconv.FormatInt(n.Num, 10) + " "
		case api.ValFun:
			text += "fun "
		default:
			text += n.Text + " "
		}
	}
	return text
}

// tellAll tells some of them.
func tellAll(l []nodes) string {
	text := ""
	for _, x := range l {
		text += "[" + tell(x) + "] "
	}
	return text
}

// A source tells numbers by a rule that is the same in each run.
type source uint32

func (s *source) below(n int) int {
	*s = *s*1664525 + 1013904223
	return int(*s>>8) % n
}

// pick tells one of these.
func pick[T any](s *source, l ...T) T { return l[s.below(len(l))] }
