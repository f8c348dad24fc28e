package typ_test

import (
	"slices"
	"strconv"
	"strings"

	"triglyph/api"
	"triglyph/tree"
)

// A nodes is a type, or what is to be none.
type nodes = []api.Node

func v(num int64) nodes { return nodes{{Kind: api.TypVar, Num: num}} }
func con(text string, kids ...nodes) nodes {
	return tree.Make(api.Node{Kind: api.TypCon, Text: text}, kids...)
}
func fun(from, to nodes) nodes { return con("->", from, to) }
func pair(a, b nodes) nodes    { return con("Pair", a, b) }
func number() nodes            { return con("int") }

// tuple returns a type that has all these types as parts, one after the other.
func tuple(types ...nodes) nodes {
	all := con("Unit")
	for _, t := range slices.Backward(types) {
		all = pair(t, all)
	}
	return all
}

// refs returns the type t in that many refs.
func refs(n int, t nodes) nodes {
	return slices.Concat(slices.Repeat(nodes{{Kind: api.TypCon, Text: "ref", Kids: 1}}, n), t)
}

// sized returns a type of that many nodes without variables.
func sized(n int) nodes {
	if n%2 == 0 {
		return con("Cell", sized(n-1))
	}
	all := slices.Repeat(nodes{{Kind: api.TypCon, Text: "Pair", Kids: 2}, {Kind: api.TypCon, Text: "text"}}, n/2)
	return append(all, number()...)
}

// vars returns a list of variables with the Nums from first to last.
func vars(first, last int64) []nodes {
	var all []nodes
	for num := first; num <= last; num++ {
		all = append(all, v(num))
	}
	return all
}

// many returns a type of n variables, numbered from 0 on.
func many(n int64) nodes { return tuple(vars(0, n-1)...) }

// show tells a list of nodes in a test's message.
func show(l nodes) string {
	var words []string
	for _, n := range l {
		words = append(words, strconv.Itoa(int(n.Kind))+strconv.Quote(n.Text)+strconv.FormatInt(n.Num, 10)+"/"+strconv.Itoa(n.Kids))
	}
	return strings.Join(words, " ")
}

// small returns the types of up to that many nodes that consist of ref, of ->, and of these.
func small(most int, leaves ...nodes) []nodes {
	sizes := [][]nodes{nil, leaves}
	for n := 2; n <= most; n++ {
		var all []nodes
		for _, t := range sizes[n-1] {
			all = append(all, con("ref", t))
		}
		for i := 1; i < n-1; i++ {
			for _, from := range sizes[i] {
				for _, to := range sizes[n-1-i] {
					all = append(all, fun(from, to))
				}
			}
		}
		sizes = append(sizes, all)
	}
	return slices.Concat(sizes...)
}

// A source tells numbers by a rule that is the same in each run.
type source uint32

func (s *source) below(n int) int {
	*s = *s*1664525 + 1013904223
	return int(*s>>8) % n
}

// typ tells a type of at most that depth, with variables below most.
func (s *source) typ(deep, most int) nodes {
	if deep == 1 || s.below(5) == 0 {
		return []nodes{number(), con("text"), con("Unit"), v(int64(s.below(most))), v(int64(s.below(most))), v(int64(s.below(most)))}[s.below(6)]
	}
	kids := func(n int) []nodes {
		var l []nodes
		for range n {
			l = append(l, s.typ(deep-1, most))
		}
		return l
	}
	switch s.below(5) {
	case 0:
		return con("ref", kids(1)...)
	case 1:
		return con("->", kids(2)...)
	case 2:
		return con("List", kids(1)...)
	case 3:
		return con("Many", kids(s.below(9))...)
	}
	return pair(s.typ(deep-1, most), s.typ(deep-1, most))
}

// like tells a type of the form of t: at some places it has a variable below most instead.
func (s *source) like(t nodes, most int) nodes {
	for range s.below(4) {
		t, _ = tree.Put(t, s.below(len(t)), v(int64(s.below(most))))
	}
	return t
}

// junk tells a list of nodes of all kinds, which is seldom a type.
func (s *source) junk() nodes {
	texts := []string{"->", "int", "text", "ref", "List", "list", "", "Let'", "\xff"}
	var l nodes
	for range s.below(8) {
		l = append(l, api.Node{Kind: api.Kind(29 + s.below(5)), Text: texts[s.below(len(texts))], Num: int64(s.below(3) - 1), Kids: s.below(5) - 1})
	}
	return l
}
