package data_test

import (
	"slices"
	"strconv"
	"strings"

	"triglyph/api"
	"triglyph/tree"
)

// A nodes is a type, or what is to be none.
type nodes = []api.Node

func v(num int64) nodes { return nodes{{Kind: api.TypVar, Num: num}} }
func con(text string, kids ...nodes) nodes {
	return tree.Make(api.Node{Kind: api.TypCon, Text: text}, kids...)
}
func fun(from, to nodes) nodes { return con("->", from, to) }
func number() nodes            { return con("int") }

func ctor(name string, args ...nodes) api.Ctor { return api.Ctor{Name: name, Args: args} }
func decl(name string, params int, cons ...api.Ctor) api.Data {
	return api.Data{Name: name, Params: params, Cons: cons}
}

// decls returns a list of declarations.
func decls(l ...api.Data) []api.Data { return l }

// list declares lists, the example of the chapter.
func list() api.Data {
	return decl("List", 1, ctor("Nil"), ctor("Cons", v(0), con("List", v(0))))
}

// unit declares a type of that name with one constructor of the same name.
func unit(name string) api.Data { return decl(name, 0, ctor(name)) }

// numbered returns n names.
func numbered(name string, n int) []string {
	var all []string
	for i := range n {
		all = append(all, name+strconv.Itoa(i))
	}
	return all
}

// units returns n declarations like that of unit.
func units(n int) []api.Data {
	var l []api.Data
	for _, name := range numbered("U", n) {
		l = append(l, unit(name))
	}
	return l
}

// ctors returns n constructors without Args.
func ctors(n int) []api.Ctor {
	var l []api.Ctor
	for _, name := range numbered("C", n) {
		l = append(l, ctor(name))
	}
	return l
}

// vars returns the variables from 0 to n - 1.
func vars(n int) []nodes {
	var l []nodes
	for num := range n {
		l = append(l, v(int64(num)))
	}
	return l
}

// refs returns the type t in that many refs.
func refs(n int, t nodes) nodes {
	return slices.Concat(slices.Repeat(nodes{{Kind: api.TypCon, Text: "ref", Kids: 1}}, n), t)
}

// show tells a list of nodes in a test's message.
func show(l nodes) string {
	var words []string
	for _, n := range l[:min(len(l), 40)] {
		words = append(words, strconv.Itoa(int(n.Kind))+strconv.Quote(n.Text)+strconv.FormatInt(n.Num, 10)+"/"+strconv.Itoa(n.Kids))
	}
	return strings.Join(words, " ")
}

// tell tells declarations in a test's message.
func tell(l []api.Data) string {
	var text strings.Builder
	for _, d := range l {
		text.WriteString("\n" + strconv.Quote(d.Name) + " " + strconv.Itoa(d.Params))
		for _, c := range d.Cons {
			text.WriteString(" | " + strconv.Quote(c.Name))
			for _, arg := range c.Args {
				text.WriteString(" (" + show(arg) + ")")
			}
		}
	}
	return text.String()[:min(text.Len(), 2000)]
}

// small returns the types of up to that depth that consist of ref, of Box, of ->, and of these.
func small(deep int, leaves ...nodes) []nodes {
	all := slices.Clone(leaves)
	if deep == 1 {
		return all
	}
	parts := small(deep-1, leaves...)
	for _, a := range parts {
		all = append(all, con("ref", a), con("Box", a))
		for _, b := range parts {
			all = append(all, fun(a, b))
		}
	}
	return all
}

// A source tells numbers by a rule that is the same in each run.
type source uint32

func (s *source) below(n int) int {
	*s = *s*1664525 + 1013904223
	return int(*s>>8) % n
}

// pick tells one of these.
func pick[T any](s *source, l ...T) T { return l[s.below(len(l))] }

// world is what the declarations of a fixed rule are called, and how many parameters they have.
var world = []struct {
	name   string
	params int
}{{"Unit", 0}, {"List", 1}, {"Pair", 2}, {"Many", 8}, {"Ref", 1}}

// typ tells a type of at most that depth, with variables below most, of the types of the world.
func (s *source) typ(deep, most int) nodes {
	if deep == 1 || s.below(4) == 0 {
		if most == 0 || s.below(2) == 0 {
			return pick(s, number(), con("text"), con("Unit"))
		}
		return v(int64(s.below(most)))
	}
	w := world[s.below(len(world))]
	kids := func(n int) []nodes {
		var l []nodes
		for range n {
			l = append(l, s.typ(deep-1, most))
		}
		return l
	}
	switch s.below(4) {
	case 0:
		return con("ref", kids(1)...)
	case 1:
		return con("->", kids(2)...)
	}
	return con(w.name, kids(w.params)...)
}

// world tells the declarations of the world, in some order; all of them may stand together.
func (s *source) world() []api.Data {
	var l []api.Data
	all := 0
	for _, w := range world {
		var cons []api.Ctor
		for range 1 + s.below(4) {
			var args []nodes
			for range s.below(4) {
				args = append(args, s.typ(1+s.below(4), w.params))
			}
			cons = append(cons, ctor("K"+strconv.Itoa(all), args...))
			all++
		}
		l = append(l, decl(w.name, w.params, cons...))
	}
	for i := range l {
		j := i + s.below(len(l)-i)
		l[i], l[j] = l[j], l[i]
	}
	return l
}

// spoil changes something in the declarations l, which mostly makes them wrong.
func (s *source) spoil(l []api.Data) {
	d := &l[s.below(len(l))]
	if len(d.Cons) == 0 {
		return
	}
	c := &d.Cons[s.below(len(d.Cons))]
	switch s.below(8) {
	case 0:
		d.Name = pick(s, "Unit", "List", "Pair", "K0", "Other", "other", "")
	case 1:
		d.Params = s.below(12) - 1
	case 2:
		d.Cons = pick(s, nil, d.Cons[:1])
	case 3:
		c.Name = pick(s, "K0", "K1", "K2", "List", "Other", "k", "")
	case 4:
		c.Args = append(c.Args, s.typ(3, 9))
	case 5:
		c.Args = append(c.Args, s.junk())
	default:
		all := slices.Concat(c.Args...)
		if len(all) == 0 {
			return
		}
		n := &all[s.below(len(all))]
		n.Text = pick(s, n.Text, "List", "Ref", "Other", "ref", "Pair")
		n.Num += int64(s.below(3) - 1)
		for i, arg := range c.Args {
			c.Args[i], all = all[:len(arg):len(arg)], all[len(arg):]
		}
	}
}

// junk tells a list of nodes of all kinds, or one that is nearly a type.
func (s *source) junk() nodes {
	var l nodes
	if s.below(2) == 0 {
		l = s.typ(3, 3)
		n := &l[s.below(len(l))]
		n.Kids += s.below(2) * (s.below(3) - 1)
		n.Text = pick(s, n.Text, n.Text, "->", "List")
		return l
	}
	for range s.below(8) {
		text := pick(s, "->", "->", "int", "text", "ref", "List", "list", "", "Pair", "\xff")
		l = append(l, api.Node{Kind: api.Kind(29 + s.below(5)), Text: text, Num: int64(s.below(3) - 1), Kids: s.below(5) - 1})
	}
	return l
}
