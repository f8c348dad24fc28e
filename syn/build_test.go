package syn_test

import (
	"slices"
	"strings"

	"triglyph/api"
	"triglyph/tree"
)

// A nodes is a tree, or what is to be none.
type nodes = []api.Node

// Expressions by kind.
func num(n int64) nodes           { return tree.Make(api.Node{Kind: api.ExpInt, Num: n}) }
func text(s string) nodes         { return tree.Make(api.Node{Kind: api.ExpText, Text: s}) }
func v(s string) nodes            { return tree.Make(api.Node{Kind: api.ExpVar, Text: s}) }
func con(s string) nodes          { return tree.Make(api.Node{Kind: api.ExpCon, Text: s}) }
func fun(s string, l nodes) nodes { return tree.Make(api.Node{Kind: api.ExpFun, Text: s}, l) }
func let(s string, l, in nodes) nodes {
	return tree.Make(api.Node{Kind: api.ExpLet, Text: s}, l, in)
}
func rec(s string, l, in nodes) nodes {
	return tree.Make(api.Node{Kind: api.ExpRec, Text: s}, l, in)
}
func cond(l ...nodes) nodes  { return tree.Make(api.Node{Kind: api.ExpIf}, l...) }
func match(l ...nodes) nodes { return tree.Make(api.Node{Kind: api.ExpMatch}, l...) }
func raise(l nodes) nodes    { return tree.Make(api.Node{Kind: api.ExpRaise}, l) }
func try(s string, l, with nodes) nodes {
	return tree.Make(api.Node{Kind: api.ExpTry, Text: s}, l, with)
}

// app returns the first expression applied to the others, one after the other.
func app(first nodes, others ...nodes) nodes {
	for _, l := range others {
		first = tree.Make(api.Node{Kind: api.ExpApp}, first, l)
	}
	return first
}

// Patterns by kind.
func pAny() nodes                     { return tree.Make(api.Node{Kind: api.PatAny}) }
func pVar(s string) nodes             { return tree.Make(api.Node{Kind: api.PatVar, Text: s}) }
func pInt(n int64) nodes              { return tree.Make(api.Node{Kind: api.PatInt, Num: n}) }
func pCon(s string, l ...nodes) nodes { return tree.Make(api.Node{Kind: api.PatCon, Text: s}, l...) }

// within returns l in n nodes that each have one kid and are like outer.
func within(n int, outer api.Node, l nodes) nodes {
	outer.Kids = 1
	return slices.Concat(slices.Repeat(nodes{outer}, n), l)
}

// raises returns an expression of that depth.
func raises(deep int) nodes { return within(deep-1, api.Node{Kind: api.ExpRaise}, v("x")) }

// cons returns a pattern of that depth.
func cons(deep int) nodes { return within(deep-1, api.Node{Kind: api.PatCon, Text: "C"}, pVar("x")) }

// arms returns an ExpMatch of that many nodes, an even number: as many arms as there is room for.
func arms(n int) nodes {
	l := slices.Repeat(nodes{pAny()[0], v("y")[0]}, n/2-1)
	return slices.Concat(nodes{{Kind: api.ExpMatch, Kids: n - 1}}, v("x"), l)
}

// letters returns the n-th of different names.
func letters(n int) string { return strings.Repeat("a", n/26+1) + string(rune('a'+n%26)) }

// wide returns a PatCon of that many nodes: the others are PatVars with different names.
func wide(n int) nodes {
	l := nodes{{Kind: api.PatCon, Text: "C", Kids: n - 1}}
	for i := range n - 1 {
		l = append(l, pVar(letters(i))...)
	}
	return l
}

// a source tells numbers by a rule that is the same in each run.
type source uint32

func (s *source) below(n int) int {
	*s = *s*1664525 + 1013904223
	return int(*s>>8) % n
}

// name tells one of a few names.
func (s *source) name() string { return []string{"x", "y", "z", "f'", "+", ">>="}[s.below(6)] }

// expression tells an expression of at most that depth.
func (s *source) expression(deep int) nodes {
	if deep == 1 {
		return []nodes{num(int64(s.below(9)) - 4), text("a b"), con("C"), v(s.name()), v(s.name()), v(s.name())}[s.below(6)]
	}
	sub := func() nodes { return s.expression(1 + s.below(deep-1)) }
	switch s.below(8) {
	case 0:
		return fun(s.name(), sub())
	case 1:
		return let(s.name(), sub(), sub())
	case 2:
		return rec(s.name(), fun(s.name(), s.expression(max(1, deep-2))), sub())
	case 3:
		return cond(sub(), sub(), sub())
	case 4:
		return raise(sub())
	case 5:
		return try(s.name(), sub(), sub())
	case 6:
		kids := []nodes{sub()}
		for range 1 + s.below(3) {
			p, _ := s.pattern(min(deep-1, 3), []string{"x", "y", "z", "f'", "+", ">>="})
			kids = append(kids, p, sub())
		}
		return match(kids...)
	}
	return app(sub(), sub())
}

// pattern tells a pattern of at most that depth with some of these names, each at most once, and returns the others, too.
func (s *source) pattern(deep int, names []string) (p nodes, others []string) {
	if deep == 1 || s.below(3) == 0 {
		if s.below(3) > 0 && len(names) > 0 {
			at := s.below(len(names))
			return pVar(names[at]), slices.Concat(names[:at], names[at+1:])
		}
		return []nodes{pAny(), pInt(int64(s.below(9)) - 4), pCon("C")}[s.below(3)], names
	}
	var kids []nodes
	for range s.below(4) {
		var kid nodes
		kid, names = s.pattern(deep-1, names)
		kids = append(kids, kid)
	}
	return pCon("D", kids...), names
}
