package show_test

import (
	"slices"
	"strconv"
	"strings"
	"testing"

	"triglyph/api"
	"triglyph/parse"
	"triglyph/tree"
)

// fixes are fixities of each Side; % has none.
func fixes() []api.Fix {
	return []api.Fix{{Op: "+", Level: 6, Side: -1}, {Op: "-", Level: 6, Side: -1}, {Op: "*", Level: 7, Side: -1}, {Op: "::", Level: 5, Side: 1}, {Op: "@", Level: 5, Side: 1}, {Op: "&", Level: 6, Side: 1}, {Op: "<", Level: 4}, {Op: "=="}, {Op: "!", Level: 9}, {Op: "^", Level: 6}}
}

// parsed returns the expression of a text.
func parsed(t *testing.T, s string) nodes {
	t.Helper()
	l, at, e := parse.Parse(s, fixes())
	if e != api.OK {
		t.Fatalf("%q: %d at %d", s, e, at)
	}
	return l
}

// made returns the tree of that Kind, Text and kids.
func made(kind api.Kind, text string, kids ...nodes) nodes {
	return tree.Make(api.Node{Kind: kind, Text: text}, kids...)
}

func v(name string) nodes { return made(api.ExpVar, name) }

func applied(first nodes, others ...nodes) nodes {
	for _, l := range others {
		first = made(api.ExpApp, "", first, l)
	}
	return first
}

// within returns l in n nodes that each have one kid and are like outer.
func within(n int, outer api.Node, l nodes) nodes {
	outer.Kids = 1
	return slices.Concat(slices.Repeat(nodes{outer}, n), l)
}

// arms returns a match of l with that many arms.
func arms(l nodes, n int) nodes {
	arm := nodes{{Kind: api.PatAny}, {Kind: api.ExpVar, Text: "y"}}
	return slices.Concat(nodes{{Kind: api.ExpMatch, Kids: 2*n + 1}}, l, slices.Repeat(arm, n))
}

// small returns, for each number up to most, the expressions with so many nodes that consist of a few names, of
// applications, and of what has one expression in it.
func small(most int) [][]nodes {
	all := [][]nodes{nil, {v("x"), v("+"), v("::"), v("%")}}
	for n := 2; n <= most; n++ {
		var l []nodes
		for _, one := range all[n-1] {
			l = append(l, made(api.ExpRaise, "", one))
		}
		if n > 3 {
			for _, one := range all[n-3] {
				l = append(l, made(api.ExpMatch, "", v("x"), made(api.PatAny, ""), one))
			}
		}
		for i := 1; i < n-1; i++ {
			for _, one := range all[i] {
				for _, other := range all[n-1-i] {
					l = append(l, applied(one, other))
				}
			}
		}
		all = append(all, l)
	}
	return all
}

// rows returns the expressions of n operators of these and operands x.
func rows(n int, ops []api.Fix) []nodes {
	if n == 0 {
		return []nodes{v("x")}
	}
	var all []nodes
	for i := range n {
		for _, left := range rows(i, ops) {
			for _, right := range rows(n-1-i, ops) {
				for _, f := range ops {
					all = append(all, applied(v(f.Op), left, right))
				}
			}
		}
	}
	return all
}

// A source tells numbers by a rule that is the same in each run.
type source uint32

func (s *source) below(n int) int {
	*s = *s*1664525 + 1013904223
	return int(*s>>8) % n
}

// one tells one of the words of a list.
func (s *source) one(list string) string {
	words := strings.Fields(list)
	return words[s.below(len(words))]
}

// operators are names of operators; those that are not among fixes have no fixity in most lists.
const operators = "+ - * :: @ & < == ! ^ % ->> |||"

func (s *source) name() string { return s.one("x y f' long_name_1 " + operators) }

// fixities tells fixities of some of the operators.
func (s *source) fixities() []api.Fix {
	var l []api.Fix
	for _, op := range strings.Fields(operators) {
		if s.below(4) > 0 {
			l = append(l, api.Fix{Op: op, Level: s.below(10) * s.below(2), Side: s.below(3) - 1})
		}
	}
	return l
}

// text tells a text.
func (s *source) text() string {
	l := make([]byte, s.below(6))
	for i := range l {
		l[i] = byte([]int{'a', ' ', '"', '\\', '\n', 0, 255, s.below(256)}[s.below(8)])
	}
	return string(l)
}

// number tells an integer of the language.
func (s *source) number() int64 {
	return []int64{api.MinInt, api.MaxInt, -1, int64(s.below(1000)) - 500}[s.below(4)]
}

// leaf tells an expression of one node.
func (s *source) leaf() nodes {
	switch s.below(8) {
	case 0:
		return nodes{{Kind: api.ExpInt, Num: s.number()}}
	case 1:
		return made(api.ExpText, s.text())
	case 2:
		return made(api.ExpCon, s.one("Nil Cons A'_9"))
	}
	return v(s.name())
}

// expression tells an expression of at most that depth.
func (s *source) expression(deep int) nodes {
	if deep <= 1 {
		return s.leaf()
	}
	sub := func() nodes { return s.expression(1 + s.below(deep-1)) }
	switch s.below(14) {
	case 0:
		return made(api.ExpFun, s.name(), sub())
	case 1:
		return made(api.ExpLet, s.name(), sub(), sub())
	case 2:
		return made(api.ExpRec, s.name(), made(api.ExpFun, s.name(), s.expression(deep-2)), sub())
	case 3:
		return made(api.ExpIf, "", sub(), sub(), sub())
	case 4:
		return made(api.ExpRaise, "", sub())
	case 5:
		return made(api.ExpTry, s.name(), sub(), sub())
	case 6, 7:
		kids := []nodes{sub()}
		for range 1 + s.below(3) {
			names := 0
			kids = append(kids, s.pattern(deep, &names), sub())
		}
		return made(api.ExpMatch, "", kids...)
	case 8, 9, 10:
		return applied(sub(), sub())
	}
	return applied(v(s.one(operators)), s.expression(deep-2), s.expression(deep-1))
}

// pattern tells a pattern of at most that depth; names counts the names that the whole pattern has.
func (s *source) pattern(deep int, names *int) nodes {
	switch s.below(5) {
	case 0:
		return made(api.PatAny, "")
	case 1:
		return nodes{{Kind: api.PatInt, Num: s.number()}}
	case 2:
		// No name is there twice, since each has its number in it, or its length by it.
		*names++
		return made(api.PatVar, []string{"x" + strconv.Itoa(*names), strings.Repeat("+", *names)}[s.below(2)])
	}
	var kids []nodes
	for range s.below(4) {
		if deep > 1 {
			kids = append(kids, s.pattern(deep-1, names))
		}
	}
	return made(api.PatCon, s.one("Nil Cons A'_9"), kids...)
}
