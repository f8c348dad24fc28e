package pat_test

import (
	"slices"
	"strconv"
	"testing"

	"triglyph/api"
	"triglyph/pat"
	"triglyph/tree"
)

// sized returns a type of that many nodes without variables.
func sized(n int) nodes {
	if n%2 == 0 {
		return con("Some", sized(n-1))
	}
	return append(slices.Repeat(nodes{{Kind: api.TypCon, Text: "Pair", Kids: 2}, {Kind: api.TypCon, Text: "text"}}, n/2), number()...)
}

// P12.1: an argument of 4000 nodes is what it is, and one of more nodes is the variable 0.
func TestGreatArgs(t *testing.T) {
	pair := func(a, b nodes) nodes { return con("Pair", a, b) }
	many := slices.Repeat(nodes{{Kind: api.TypCon, Text: "Pair", Kids: 2}, v(0)[0]}, 1999)
	l := append(world(), decl("Twin", 1, ctor("Twin", pair(v(0), v(0)), con("Some", pair(v(0), v(0))), v(0))), decl("Many", 1, ctor("Many", append(many, v(0)...), number())))
	for _, n := range []int{1, 2, 1000, 1997, 1998, 1999, 2000, 3998, 3999} {
		x := sized(n)
		want := []nodes{pair(x, x), con("Some", pair(x, x)), x}
		for i, arg := range want {
			if len(arg) > 4000 {
				want[i] = v(0)
			}
		}
		got, ok := pat.Args(l, con("Twin", x), "Twin")
		if !ok || !equalAll(got, want) {
			t.Errorf("of a type of %d nodes: %s, %t", n+1, tellAll(got), ok)
		}
		// What such an argument may be.
		p, value, e := pc("Twin", pc("Pair", wild(), name("x")), wild(), wild()), vc("Twin", vf(), vf(), vf()), api.OK
		if 2*n+1 > 4000 {
			e = api.ErrPatType
		}
		if got := pat.Check(l, con("Twin", x), p); got != e {
			t.Errorf("a pair of types of %d nodes: %d", n, got)
		}
		if got := pat.Check(l, con("Twin", x), pc("Twin", name("x"), wild(), name("y"))); got != api.OK {
			t.Errorf("any pair of types of %d nodes: %d", n, got)
		}
		if pat.Has(l, con("Twin", x), value) {
			t.Errorf("functions have types of %d nodes", n)
		}
		if has := pat.Has(l, con("Twin", con("ref", x)), value); has != (2*(n+1)+1 > 4000 && n+2 <= 4000) {
			t.Errorf("functions have types of references to what has %d nodes: %t", n, has)
		}
		missing, is, _ := pat.Missing(l, con("Twin", x), []nodes{pc("Twin", wild(), pc("None"), wild())})
		if want := e == api.OK && 2*n+2 <= 4000; is != want || want && len(missing) < 5 {
			t.Errorf("of types of %d nodes %s is missing", n, tell(missing))
		}
	}
	for _, n := range []int{1, 2, 3, 2000, 3999} {
		got, ok := pat.Args(l, con("Many", sized(n)), "Many")
		if want := 1999 + 2000*n; !ok || len(got) != 2 || n == 1 && len(got[0]) != want || n > 1 && !slices.Equal(got[0], v(0)) || !slices.Equal(got[1], number()) {
			t.Errorf("many of a type of %d nodes: %s, %t", n, tellAll(got), ok)
		}
		if has := pat.Has(l, con("Many", sized(n)), vc("Many", vf(), vi(1))); has != (n > 1) {
			t.Errorf("a function has a type of many of %d nodes: %t", n, has)
		}
	}
}

// P12.1: types that double at each depth, until they are too great.
func TestDoubling(t *testing.T) {
	for n := range 30 {
		// The type of what is flat has 2^(n + 1) - 1 nodes. Where the whole type would have more than 4000, it is a
		// variable.
		typ, value, p := con("Nest", number()), vf(), name("x")
		for range n {
			value, p = vc("Nest", value), pc("Nest", p)
		}
		want := api.OK
		if n > 11 {
			want = api.ErrPatType
		}
		if e := pat.Check(world(), typ, p); e != want {
			t.Errorf("%d nests: %d", n, e)
		}
		// The nest of that depth itself is a variable only if it has 2^(n + 1) nodes and these are too many.
		if has := pat.Has(world(), typ, value); has != (n == 11) {
			t.Errorf("%d nests: a function is one: %t", n, has)
		}
		if n > 0 {
			missing, is, e := pat.Missing(world(), typ, []nodes{p})
			if e != want || is != (e == api.OK) || is && !slices.Equal(missing, pc("Flat", wild())) {
				t.Errorf("%d nests: %s, %t, %d", n, tell(missing), is, e)
			}
		}
	}
}

// conses returns the pattern of that many elements, and what is behind them.
func conses(n int, rest nodes) nodes {
	cons := nodes{{Kind: api.PatCon, Text: "Cons", Kids: 2}, {Kind: api.PatAny}}
	return append(slices.Repeat(cons, n), rest...)
}

// P12.1: patterns as deep, and as great, as they may be.
func TestGreatPatterns(t *testing.T) {
	typ := list(con("Tree", number()))
	full := wild()
	for range 9 {
		full = pc("Fork", full, wild(), full)
	}
	for _, x := range []struct {
		p    nodes
		want api.Errno
	}{
		{conses(99, pc("Nil")), api.OK}, {conses(100, pc("Nil")), api.ErrPatType}, {conses(98, wild()), api.OK}, {conses(98, exact(1)), api.ErrPatType},
		{pc("Cons", full, pc("Cons", full, wild())), api.OK}, {slices.Concat(slices.Repeat(append(nodes{{Kind: api.PatCon, Text: "Cons", Kids: 2}}, full...), 2), wild()), api.OK},
	} {
		if e := pat.Check(world(), typ, x.p); e != x.want {
			t.Errorf("%s, %d deep: %d", tell(x.p), tree.Deep(x.p), e)
		}
	}
	for n, want := range map[int]api.Errno{3999: api.OK, 4000: api.OK, 4001: api.ErrPatType} {
		p := broad(n)
		if e := pat.Check(eighths(), con("Eighth"), p); len(p) != n || e != want {
			t.Errorf("a pattern of %d nodes: %d", len(p), e)
		}
		got, is, e := pat.Missing(eighths(), con("Eighth"), []nodes{p})
		if e != want || is != (e == api.OK) || is && pat.Check(eighths(), con("Eighth"), got) != api.OK {
			t.Errorf("a pattern of %d nodes: %s, %t, %d", n, tell(got), is, e)
		}
		if got, e := pat.Useless(eighths(), con("Eighth"), []nodes{p, p, wild(), p}); e != want || len(got) > 0 && !slices.Equal(got, []int{1, 3}) {
			t.Errorf("a pattern of %d nodes: %v, %d", n, got, e)
		}
	}
}

// eighths declares a type with eight parts of the same type, and one with a single part of it, and one without parts.
func eighths() []api.Data {
	e := con("Eighth")
	return append(world(), decl("Eighth", 0, ctor("Parts", slices.Repeat([]nodes{e}, 8)...), ctor("Part", e), ctor("End"), ctor("Last")))
}

// broad returns a pattern of that many nodes of the type Eighth, without wild parts.
func broad(n int) nodes {
	if n < 9 {
		return append(slices.Repeat(nodes{{Kind: api.PatCon, Text: "Part", Kids: 1}}, n-1), pc("End")...)
	}
	kids := make([]nodes, 8)
	for i := range kids {
		kids[i] = broad((n - 1 + i) / 8)
	}
	return pc("Parts", kids...)
}

// P12.3: what is missing is no deeper than a pattern may be, if there is such a one.
func TestDeepMissing(t *testing.T) {
	b := con("Bool")
	var pats, pairs []nodes
	for n := range 99 {
		pats = append(pats, conses(n, pc("Nil")))
		second := wild()
		if n == 98 {
			second = pc("Pair", pc("True"), wild())
		}
		pairs = append(pairs, pc("Pair", conses(n, pc("Nil")), second))
	}
	if p, is, e := pat.Missing(world(), list(b), pats); !slices.Equal(p, conses(99, wild())) || !is || e != api.OK {
		t.Errorf("of lists of up to 98: %s, %t, %d", tell(p), is, e)
	}
	// Longer ones would be too deep.
	typ := con("Pair", list(b), con("Pair", b, b))
	p, is, e := pat.Missing(world(), typ, pairs)
	if !is || e != api.OK || pat.Check(world(), typ, p) != api.OK || pat.First(pairs, ground(p)) != -1 {
		t.Errorf("of pairs with lists of up to 98: %s, %t, %d", tell(p), is, e)
	}
	// All that are missing are too deep: the document asks for a pattern that there is not. They are missing.
	pats = append(pats, conses(99, pc("Nil")))
	if p, is, e := pat.Missing(world(), list(b), pats); !slices.Equal(p, conses(100, wild())) || !is || e != api.OK {
		t.Errorf("of lists of up to 99: %s, %t, %d", tell(p), is, e)
	}
	if got, e := pat.Useless(world(), list(b), append(pats, wild(), wild())); !slices.Equal(got, []int{101}) || e != api.OK {
		t.Errorf("of lists of up to 99, and any: %v, %d", got, e)
	}
	pats = append(pats, wild())
	if p, is, e := pat.Missing(world(), list(b), pats); len(p) > 0 || is || e != api.OK {
		t.Errorf("of all lists: %s, %t, %d", tell(p), is, e)
	}
}

// ground returns a value that a pattern matches, with functions for what is wild.
func ground(p nodes) nodes {
	x := slices.Clone(p)
	for i, n := range p {
		switch n.Kind {
		case api.PatCon:
			x[i].Kind = api.ValCon
		case api.PatInt:
			x[i].Kind = api.ValInt
		default:
			x[i] = vf()[0]
		}
	}
	return x
}

// leaves calls see for all patterns that ask for a leaf at a place of that depth in a tree.
func leaves(deep int, see func(p nodes)) {
	if deep == 0 {
		see(pc("Leaf"))
		return
	}
	leaves(deep-1, func(p nodes) {
		see(pc("Fork", p, wild(), wild()))
		see(pc("Fork", wild(), wild(), p))
	})
}

// P12.3: values have no more than 4000 nodes, and so has what is missing.
func TestGreatMissing(t *testing.T) {
	t.Parallel()
	typ := con("Tree", con("Bool"))
	var pats []nodes
	for deep := range 12 {
		leaves(deep, func(p nodes) { pats = append(pats, p) })
		// All trees are matched but those with forks at all these places.
		size := 3*(1<<(deep+1)-1) + 1
		p, is, e := pat.Missing(world(), typ, pats)
		if want := size <= 4000; e != api.OK || is != want || is && len(p) != size {
			t.Errorf("%d deep: %s, %t, %d, not %d nodes", deep, tell(p), is, e, size)
		}
		if is && pat.Check(world(), typ, p) != api.OK {
			t.Errorf("%d deep: %s is no pattern", deep, tell(p))
		}
		if deep < 8 {
			continue
		}
		// Others are missing, but smaller.
		two := con("Either", typ, con("Bool"))
		l := append(world(), decl("Either", 2, ctor("Left", v(0)), ctor("Right", v(1))))
		some := []nodes{pc("Right", pc("True"))}
		for _, p := range pats {
			some = append(some, pc("Left", p))
		}
		p, is, e = pat.Missing(l, two, some)
		if !is || e != api.OK || pat.Check(l, two, p) != api.OK || size >= 4000 && !slices.Equal(p, pc("Right", pc("False"))) {
			t.Errorf("%d deep, or something else: %s, %t, %d", deep, tell(p), is, e)
		}
	}
	if got, e := pat.Useless(world(), typ, append(slices.Clone(pats), wild(), pc("Leaf"))); e != api.OK || !slices.Equal(got, sequence(1334, len(pats)+2)) {
		t.Errorf("trees that are too great: %d patterns are useless, %d", len(got), e)
	}
}

// either declares what is of one of two types, or two truth values; trees and truth values are in the world.
func either() []api.Data {
	return append(world(), decl("Either", 2, ctor("Left", v(0)), ctor("Right", v(1)), ctor("Truths", con("Bool"), con("Bool"))))
}

// somewhere returns the first n patterns that ask for a leaf somewhere in a tree, and what they leave over: all trees
// with forks at these places, which have n forks.
func somewhere(n int) []nodes {
	var pats []nodes
	for deep := 0; len(pats) < n; deep++ {
		leaves(deep, func(p nodes) { pats = append(pats, p) })
	}
	return pats[:n]
}

// forks returns the pattern of a tree with forks down to a depth.
func forks(deep int) nodes {
	if deep == 0 {
		return wild()
	}
	return pc("Fork", forks(deep-1), wild(), forks(deep-1))
}

// in returns patterns that are an argument of a constructor, before which there are some wild ones.
func in(con string, before int, pats []nodes) []nodes {
	var all []nodes
	for _, p := range pats {
		all = append(all, pc(con, append(slices.Repeat([]nodes{wild()}, before), p)...))
	}
	return all
}

// P12.3: how great the smallest of the values are that are missing is told to the node, whatever else there is.
func TestSizeOfMissing(t *testing.T) {
	t.Parallel()
	tree := con("Tree", number())
	for _, x := range []struct {
		text string
		t    nodes
		pats []nodes
		want int // how many nodes what is missing has; 0 if there is nothing
	}{
		{"trees of 4000 nodes", tree, somewhere(1333), 4000},
		{"trees of 4003 nodes", tree, somewhere(1334), 0},
		{"of 3998 nodes", con("Some", tree), append(in("Some", 0, somewhere(1332)), pc("None")), 3998},
		{"of 4001 nodes", con("Some", tree), append(in("Some", 0, somewhere(1333)), pc("None")), 0},
		{"of 3999 nodes", con("Some", con("Some", tree)), append(in("Some", 0, append(in("Some", 0, somewhere(1332)), pc("None"))), pc("None")), 3999},
		// Trees of 3070 nodes that turn out to be matched, and then others.
		{"left, then right", con("Either", tree, tree), slices.Concat(in("Right", 0, somewhere(1023)), in("Left", 0, append(somewhere(1023), forks(10))), []nodes{pc("Truths", wild(), wild())}), 3071},
		{"right, then left", con("Either", tree, tree), slices.Concat(in("Left", 0, somewhere(1023)), in("Right", 0, append(somewhere(1023), forks(10))), []nodes{pc("Truths", wild(), wild())}), 3071},
		// Of two great trees one may be something else that is small.
		{"trees, then left", con("Pair", con("Either", tree, con("Loop")), tree), slices.Concat(in("Pair", 1, somewhere(700)), aside(in("Left", 0, somewhere(900))), aside([]nodes{pc("Right", wild()), pc("Truths", pc("True"), pc("True"))})), 2 + 3 + 2101 - 1},
		{"left, then trees", con("Pair", con("Either", tree, con("Loop")), tree), slices.Concat(aside(in("Left", 0, somewhere(900))), aside([]nodes{pc("Right", wild()), pc("Truths", pc("True"), pc("True"))}), in("Pair", 1, somewhere(700))), 2 + 3 + 2101 - 1},
		{"two great trees", con("Pair", tree, tree), append(in("Pair", 1, somewhere(700)), aside(somewhere(900))...), 0},
		{"two trees", con("Pair", tree, tree), append(in("Pair", 1, somewhere(600)), aside(somewhere(732))...), 3999},
	} {
		p, is, e := pat.Missing(either(), x.t, x.pats)
		if e != api.OK || is != (x.want > 0) || len(p) != x.want || is && (pat.Check(either(), x.t, p) != api.OK || pat.First(x.pats, ground(p)) != -1) {
			t.Errorf("%s: %s, %t, %d, not %d nodes", x.text, tell(p), is, e, x.want)
		}
	}
}

// P12.3: the same where one choice, which makes no node more, makes another one that makes one node more.
func TestSizeByChoices(t *testing.T) {
	t.Parallel()
	b, tree := con("Bool"), con("Tree", number())
	typ := con("Pair", con("Pair", b, con("Some", b)), con("Pair", b, tree))
	for _, x := range []struct{ forks, want int }{{1331, 4000}, {1332, 0}, {1330, 3997}} {
		pats := aside([]nodes{pc("Pair", pc("True"), pc("None")), pc("Pair", pc("False"), pc("Some", wild()))})
		for _, p := range somewhere(x.forks) {
			pats = append(pats, pc("Pair", wild(), pc("Pair", pc("True"), p)), pc("Pair", wild(), pc("Pair", pc("False"), p)))
		}
		p, is, e := pat.Missing(world(), typ, pats)
		if e != api.OK || is != (x.want > 0) || len(p) > x.want+1 || is && (pat.Check(world(), typ, p) != api.OK || pat.First(pats, ground(p)) != -1) {
			t.Errorf("%d forks: %s, %t, %d, not %d nodes", x.forks, tell(p), is, e, x.want)
		}
	}
}

// aside returns patterns of pairs whose first parts these are.
func aside(pats []nodes) []nodes {
	var all []nodes
	for _, p := range pats {
		all = append(all, pc("Pair", p, wild()))
	}
	return all
}

// P12.3: of constructors that are not in the patterns, one without arguments is missing where others would be too deep.
func TestFlatMissing(t *testing.T) {
	deeper := con("Deeper")
	for _, cons := range [][]api.Ctor{
		{ctor("Both", deeper, deeper), ctor("Next", deeper), ctor("Zero"), ctor("Last")},
		{ctor("Zero"), ctor("Last"), ctor("Next", deeper), ctor("Both", deeper, deeper)},
		{ctor("Zero"), ctor("Next", deeper), ctor("Last"), ctor("Both", deeper, deeper)},
	} {
		l := []api.Data{decl("Deeper", 0, cons...)}
		next := func(n int, p nodes) nodes {
			return append(slices.Repeat(nodes{{Kind: api.PatCon, Text: "Next", Kids: 1}}, n), p...)
		}
		pats := []nodes{next(99, pc("Zero"))}
		for n := range 99 {
			pats = append(pats, next(n, pc("Zero")), next(n, pc("Last")), next(n, pc("Both", wild(), wild())))
		}
		p, is, e := pat.Missing(l, deeper, pats)
		if !is || e != api.OK || !slices.Equal(p, next(99, pc("Last"))) {
			t.Errorf("%s is missing, %t, %d", tell(p), is, e)
		}
	}
}

// truths returns a pattern of 64 truth values, of which these are asked for.
func truths(asked map[int]string) nodes {
	var all []nodes
	for i := range 8 {
		var kids []nodes
		for j := range 8 {
			kid := wild()
			if text := asked[8*i+j]; text != "" {
				kid = pc(text)
			}
			kids = append(kids, kid)
		}
		all = append(all, pc("Eight", kids...))
	}
	return pc("Row", all...)
}

// P12.3: patterns that ask for little of much.
func TestBroadMissing(t *testing.T) {
	l := append(world(), decl("Row", 0, ctor("Row", slices.Repeat([]nodes{con("Eight")}, 8)...)))
	typ := con("Row")
	var ones, pairs, core []nodes
	for i := range 64 {
		ones = append(ones, truths(map[int]string{i: "True"}))
	}
	for i := range 31 {
		pairs = append(pairs, truths(map[int]string{2 * i: "True", 2*i + 1: "True"}), truths(map[int]string{2 * i: "False", 2*i + 1: "False"}))
	}
	for _, x := range []string{"True", "False"} {
		for _, y := range []string{"True", "False"} {
			core = append(core, truths(map[int]string{62: x, 63: y}))
		}
	}
	for i, x := range []struct {
		pats    []nodes
		missing bool
		useless []int
	}{
		{ones, true, nil}, {append(slices.Clone(ones), wild()), false, nil}, {append(slices.Clone(ones), truths(map[int]string{5: "True", 6: "False"})), true, []int{64}},
		{pairs, true, nil}, {slices.Concat(pairs, core), false, nil}, {slices.Concat(core, pairs), false, sequence(4, 66)}, {slices.Concat(pairs, core, []nodes{wild(), truths(nil)}), false, []int{66, 67}}, {slices.Concat(pairs, core[1:], []nodes{wild()}), false, nil}, {slices.Concat(pairs, core[:3]), true, nil},
		{slices.Concat(pairs, []nodes{truths(map[int]string{0: "True", 1: "False"}), truths(map[int]string{0: "False"})}), false, nil},
	} {
		p, is, e := pat.Missing(l, typ, x.pats)
		if is != x.missing || e != api.OK || is && pat.Check(l, typ, p) != api.OK {
			t.Errorf("%d: %s, %t, %d", i, tell(p), is, e)
		}
		if got, e := pat.Useless(l, typ, x.pats); e != api.OK || !slices.Equal(got, x.useless) {
			t.Errorf("%d: %v, %d", i, got, e)
		}
	}
}

// sequence returns the numbers from one to before another.
func sequence(from, to int) []int {
	var all []int
	for i := from; i < to; i++ {
		all = append(all, i)
	}
	return all
}

// P12.2, P12.3: many patterns.
func TestManyPatterns(t *testing.T) {
	var nums, pairs []nodes
	var twice []int
	for i := range 4000 {
		nums = append(nums, exact(int64(i*7919%3001)))
		if i >= 3001 {
			twice = append(twice, i)
		}
		pairs = append(pairs, pc("Pair", exact(int64(i%50)), exact(int64(i%99))))
	}
	p, is, e := pat.Missing(world(), number(), nums)
	if !is || e != api.OK || pat.First(nums, vi(p[0].Num)) != -1 {
		t.Errorf("of 3001 numbers: %s, %t, %d", tell(p), is, e)
	}
	if got, e := pat.Useless(world(), number(), nums); e != api.OK || !slices.Equal(got, twice) {
		t.Errorf("of 3001 numbers: %d are useless, %d", len(got), e)
	}
	typ := con("Pair", number(), number())
	if got, e := pat.Useless(world(), typ, append(pairs, wild())); e != api.OK || len(got) != 0 {
		t.Errorf("of 4000 pairs: %d are useless, %d", len(got), e)
	}
	if p, is, e = pat.Missing(world(), typ, pairs); !is || e != api.OK || pat.Check(world(), typ, p) != api.OK {
		t.Errorf("of 4000 pairs: %s, %t, %d", tell(p), is, e)
	}
	for _, i := range []int{0, 1, 2500, 3000} {
		if at := pat.First(nums, vi(int64(i*7919%3001))); at != i {
			t.Errorf("the number %s is the first at %d, not %d", strconv.Itoa(i*7919%3001), at, i)
		}
	}
}
