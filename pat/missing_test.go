package pat_test

import (
	"slices"
	"strings"
	"testing"

	"triglyph/api"
	"triglyph/pat"
)

// P12.3: what is missing, and what is useless. What is missing is given where there is only one pattern of it.
func TestMissing(t *testing.T) {
	b, three := con("Bool"), con("Three")
	bools := con("Pair", b, b)
	for _, x := range []struct {
		t       nodes
		pats    string
		missing string // "" for none, "?" for some
		useless []int
	}{
		// The example of the chapter.
		{list(number()), "Nil; Cons _ Nil", "Cons _ (Cons _ _)", nil},
		{list(number()), "", "_", nil}, {list(number()), "_", "", nil}, {list(number()), "x", "", nil}, {list(number()), "x; _; Nil; Cons 1 _", "", []int{1, 2, 3}},
		{list(number()), "Nil", "Cons _ _", nil}, {list(number()), "Cons _ _", "Nil", nil}, {list(number()), "Cons x Nil", "?", nil}, {list(number()), "Nil; Cons x y", "", nil}, {list(number()), "Cons x y; Nil; _", "", []int{2}}, {list(number()), "Nil; _; Cons x y", "", []int{2}}, {list(number()), "Nil; Nil; Cons _ _; Nil", "", []int{1, 3}},
		{list(number()), "Nil; Cons 1 _; Cons _ Nil", "?", nil}, {list(number()), "Nil; Cons 1 _; Cons _ Nil; Cons 1 Nil; Cons 2 Nil; Cons _ (Cons _ _)", "", []int{3, 4}}, {list(number()), "Nil; Cons 1 x; Cons 2 x; Cons 1 (Cons 3 y); Cons x y", "", []int{3}},
		// Types without patterns of their own.
		{number(), "", "_", nil}, {number(), "0", "?", nil}, {number(), "0; 1; 2; 0; 3; 2", "?", []int{3, 5}}, {number(), "1; x; 2", "", []int{2}}, {number(), "_", "", nil},
		{word(), "", "_", nil}, {word(), "x", "", nil}, {word(), "x; _", "", []int{1}}, {v(0), "", "_", nil}, {v(0), "_; _", "", []int{1}}, {fun(b, b), "", "_", nil}, {fun(b, b), "f; _", "", []int{1}}, {con("ref", b), "", "_", nil}, {con("ref", b), "x", "", nil}, {con("Other", b), "", "_", nil}, {con("Other", b), "x; y", "", []int{1}}, {con("Bool", b), "x; y", "", []int{1}}, {con("List"), "", "_", nil},
		// All constructors are there, or not.
		{b, "", "_", nil}, {b, "True", "False", nil}, {b, "False", "True", nil}, {b, "True; False", "", nil}, {b, "True; True", "False", []int{1}}, {b, "False; True; _", "", []int{2}}, {b, "True; _; False", "", []int{2}},
		{three, "One; Two", "Both _ _", nil}, {three, "One; Both _ _", "Two", nil}, {three, "One; Both _ True", "?", nil}, {three, "One; Two; Both _ True", "Both _ False", nil}, {three, "One; Two; Both True _; Both _ True", "Both False False", nil}, {three, "One; Two; Both True _; Both _ True; Both False False; Both _ _", "", []int{5}}, {three, "Both True _; Both _ True; Both True True; Both False _; _; One", "", []int{2, 5}},
		{bools, "Pair True _; Pair _ True", "Pair False False", nil}, {bools, "Pair True True; Pair False False", "?", nil}, {bools, "Pair True True; Pair False False; Pair True _; Pair _ True; Pair x y", "", []int{4}}, {bools, "Pair _ True; Pair True _; Pair _ False", "", nil}, {bools, "Pair _ True; Pair _ False; Pair True _", "", []int{2}}, {bools, "Pair x _; _", "", []int{1}},
		{con("Pair", number(), b), "Pair 1 _; Pair _ True", "?", nil}, {con("Pair", number(), b), "Pair 1 _; Pair _ True; Pair 1 True; Pair 2 False; Pair x False; Pair 3 False", "", []int{2, 5}}, {con("Pair", number(), number()), "Pair 1 2; Pair 2 1; Pair 1 _; Pair _ 1; Pair 1 1; Pair 2 2", "?", []int{4}},
		// Arguments whose types are others at each depth.
		{con("Swap", number(), b), "Swap (Pair True 1); Swap (Pair False x); Same _", "?", nil}, {con("Swap", number(), b), "Swap (Pair True x); Swap (Pair False x); Same _", "", nil}, {con("Swap", b, v(0)), "Swap (Pair _ True); Same x", "Swap (Pair _ False)", nil},
		{con("Nest", b), "Flat _; Nest (Flat _)", "Nest (Nest _)", nil}, {con("Nest", b), "Flat True; Flat False; Nest (Flat (Pair True _)); Nest (Flat (Pair _ True)); Nest (Nest _)", "Nest (Flat (Pair False False))", nil}, {con("Nest", b), "Nest (Nest (Flat (Pair (Pair True _) (Pair _ _)))); Nest (Nest (Flat (Pair (Pair False _) _))); Nest (Nest (Nest _)); Nest (Flat _); Flat _; Nest _", "", []int{5}},
		// Each type is assumed to have values, though some have none.
		{con("Loop"), "", "_", nil}, {con("Loop"), "Loop _", "", nil}, {con("Loop"), "Loop (Loop (Loop _)); Loop x", "", []int{1}}, {con("Some", con("Loop")), "None", "Some _", nil}, {con("Some", con("Other")), "None", "Some _", nil}, {con("Some", con("Other")), "Some _", "None", nil},
		// Kids that are not looked at by all patterns.
		{con("Eight"), "Eight True _ _ _ _ _ _ _; Eight _ _ _ _ _ _ _ True; Eight _ _ _ False _ _ _ _", "Eight False _ _ True _ _ _ False", nil},
		{con("Tree", b), "Leaf; Fork Leaf _ _; Fork _ _ Leaf", "Fork (Fork _ _ _) _ (Fork _ _ _)", nil}, {con("Tree", b), "Leaf; Fork Leaf _ _; Fork _ _ Leaf; Fork _ True _; Fork (Fork _ _ _) x _; Fork Leaf _ Leaf", "", []int{5}},
		{con("Odd", b, b, b), "Odd f r x 1", "?", nil}, {con("Odd", b, b, b), "Odd _ _ _ 1; Odd _ _ _ 2; Odd _ _ _ 1; Odd f r x n; _", "", []int{2, 4}},
	} {
		var pats []nodes
		if x.pats != "" {
			pats = readAll(t, strings.Split(x.pats, "; ")...)
		}
		p, is, e := pat.Missing(world(), x.t, pats)
		if e != api.OK || is != (x.missing != "") || len(p) > 0 != is {
			t.Errorf("%s of %s: %s, %t, %d", x.pats, tell(x.t), tell(p), is, e)
		}
		if is && x.missing != "?" && !slices.Equal(p, read(t, x.missing)) {
			t.Errorf("%s of %s: %s is missing, not %s", x.pats, tell(x.t), tell(p), x.missing)
		}
		useless, e := pat.Useless(world(), x.t, pats)
		if e != api.OK || !slices.Equal(useless, x.useless) {
			t.Errorf("%s of %s: %v, %d, not %v", x.pats, tell(x.t), useless, e, x.useless)
		}
		compare(t, x.t, pats)
	}
}

// compare compares Missing and Useless with the model, unless that has too many values. It tells whether it has not.
func compare(t *testing.T, typ nodes, pats []nodes) bool {
	t.Helper()
	values := modelOf(world(), typ, pats)
	if values == nil {
		return false
	}
	missing, useless := modelMissing(pats, values)
	p, is, e := pat.Missing(world(), typ, pats)
	if is != missing || e != api.OK || len(p) > 0 != is {
		t.Fatalf("%s of %s: %s, %t, %d", tellAll(pats), tell(typ), tell(p), is, e)
	}
	if got, e := pat.Useless(world(), typ, pats); e != api.OK || !slices.Equal(got, useless) {
		t.Fatalf("%s of %s: %v, %d, not %v", tellAll(pats), tell(typ), got, e, useless)
	}
	if is {
		// Values for the pattern that is missing, too.
		values = modelOf(world(), typ, append(slices.Clone(pats), p))
		if e := pat.Check(world(), typ, p); e != api.OK || values != nil && !misses(p, pats, values) {
			t.Fatalf("%s of %s: %s is not missing; %d", tellAll(pats), tell(typ), tell(p), e)
		}
	}
	return true
}

// misses tells whether the pattern p matches one of the values, and none that one of the patterns matches.
func misses(p nodes, pats []nodes, values []*plant) bool {
	met := false
	first := modelFirst(pats, values)
	for i, at := range modelFirst([]nodes{p}, values) {
		if at == 0 && first[i] >= 0 {
			return false
		}
		met = met || at == 0
	}
	return met
}

// P12.3: all lists of up to three of all patterns of a type of up to some nodes, and some longer ones.
func TestSmallMissing(t *testing.T) {
	t.Parallel()
	b := con("Bool")
	for _, x := range []struct {
		t    nodes
		most int
	}{
		{b, 2}, {number(), 1}, {con("Pair", b, b), 3}, {con("Three"), 3}, {list(b), 5}, {list(number()), 3}, {con("Some", con("Some", b)), 3}, {con("Swap", b, con("Loop")), 4}, {con("Nest", b), 5},
	} {
		all := patterns(x.t, x.most)
		if len(all) < 3 {
			t.Errorf("%d patterns of %s", len(all), tell(x.t))
		}
		s := source(1)
		for _, p := range all {
			compare(t, x.t, []nodes{p})
			for _, q := range all {
				compare(t, x.t, []nodes{p, q})
				for _, r := range all {
					if len(all) > 16 && s.below(len(all)*len(all)) > 200 {
						continue
					}
					compare(t, x.t, []nodes{p, q, r})
					compare(t, x.t, []nodes{p, q, r, pick(&s, all...), pick(&s, all...)})
				}
			}
		}
	}
}

// patterns returns all patterns of the type t of up to that many nodes, without names; of numbers, three.
func patterns(t nodes, most int) []nodes {
	if most < 1 {
		return nil
	}
	all := []nodes{wild()}
	if t[0].Text == "int" {
		return append(all, exact(0), exact(1), exact(-1<<62))
	}
	for _, d := range world() {
		if d.Name != t[0].Text {
			continue
		}
		for _, c := range d.Cons {
			args, _ := pat.Args(world(), t, c.Name)
			rows := [][]nodes{nil}
			for i, arg := range args {
				var longer [][]nodes
				for _, row := range rows {
					left := most - 1 - len(slices.Concat(row...)) - (len(args) - 1 - i)
					for _, kid := range patterns(arg, left) {
						longer = append(longer, append(slices.Clone(row), kid))
					}
				}
				rows = longer
			}
			for _, row := range rows {
				if p := pc(c.Name, row...); len(p) <= most {
					all = append(all, p)
				}
			}
		}
	}
	return all
}

// pattern tells a pattern of a type.
func (s *source) pattern(t nodes, deep int) nodes {
	if deep == 0 || s.below(4) == 0 {
		return pick(s, wild(), wild(), name("x"))
	}
	if t[0].Text == "int" {
		return exact(int64(s.below(3)))
	}
	l := world()
	for _, d := range l {
		if d.Name == t[0].Text {
			c := pick(s, d.Cons...)
			args, _ := modelArgs(l, grow(t), c.Name)
			var kids []nodes
			for i, arg := range args {
				kid := s.pattern(arg.list(), deep-1)
				// Each name once.
				for at := range kid {
					if kid[at].Kind == api.PatVar {
						kid[at].Text += strings.Repeat("'", i) + "y"
					}
				}
				kids = append(kids, kid)
			}
			return pc(c.Name, kids...)
		}
	}
	return wild()
}

// someTypes are types of which patterns are told.
func someTypes() []nodes {
	b := con("Bool")
	return []nodes{b, list(b), list(number()), con("Pair", b, b), con("Pair", con("Three"), number()), con("Pair", con("Three"), con("Some", b)), con("Three"), con("Swap", b, number()), con("Some", con("Some", con("Three"))), con("Nest", b), con("Nest", number()), con("Tree", b), con("Loop"), con("Odd", b, b, b), con("Eight"), con("Pair", list(b), list(b))}
}

// P12.3: the same for more and greater patterns of a fixed rule.
func TestGreaterMissing(t *testing.T) {
	t.Parallel()
	s := source(2)
	done, none := 0, 0
	for range 6000 {
		typ := pick(&s, someTypes()...)
		deep := 1 + s.below(3)
		var pats []nodes
		for range 1 + s.below(12) {
			pats = append(pats, s.pattern(typ, deep))
		}
		if s.below(3) == 0 {
			// What is missing is put in, again and again.
			for {
				p, is, _ := pat.Missing(world(), typ, pats)
				if !is || len(pats) > 40 {
					break
				}
				pats = slices.Insert(pats, s.below(len(pats)+1), p)
			}
		}
		if compare(t, typ, pats) {
			done++
			if _, is, _ := pat.Missing(world(), typ, pats); !is {
				none++
			}
		}
	}
	if done < 3000 || none < 500 {
		t.Errorf("%d lists of patterns, nothing is missing of %d", done, none)
	}
}
