package syn_test

import (
	"math"
	"slices"
	"strconv"
	"strings"
	"testing"

	"triglyph/api"
	"triglyph/syn"
	"triglyph/tree"
)

// P6.1: names and constructor names.
func TestNameAndCon(t *testing.T) {
	for _, s := range []string{"x", "z", "f'", "x_1", "lEt", "lets", "in'", "a" + strings.Repeat("bC0_'", 100), "+", "-", "==", "||", "->>", ">-", "!$%&*+-/:<=>?@^|", strings.Repeat("=", 300)} {
		if !syn.Name(s) || syn.Con(s) {
			t.Errorf("%q: Name %v, Con %v", s, syn.Name(s), syn.Con(s))
		}
	}
	for _, s := range []string{"X", "Cons", "Let", "A_'9z", "C" + strings.Repeat("bC0_'", 100)} {
		if syn.Name(s) || !syn.Con(s) {
			t.Errorf("%q: Name %v, Con %v", s, syn.Name(s), syn.Con(s))
		}
	}
	for _, s := range append([]string{"", " ", "x ", " x", "x y", "X ", "X.Y", "1", "~1", "1x", "'x", "_", "_x", "x-", "X+", "+x", "+ ", "+~", "(+)", ";", ";;", `"x"`, "#", "é", "xé", "É", "X\x00", "x\xff", "x\n", "X\n", "+\n", "\xc3", "×", ",", "."}, keys...) {
		if syn.Name(s) || syn.Con(s) {
			t.Errorf("%q: Name %v, Con %v", s, syn.Name(s), syn.Con(s))
		}
	}
}

// P6.1: which bytes names may have, and where.
func TestNameAndConOfBytes(t *testing.T) {
	for b := range 256 {
		c := string([]byte{byte(b)})
		for _, s := range []string{c, "a" + c, c + "a", "A" + c, c + "A", "+" + c, c + "+", "a" + c + "a", "A" + c + "A", "+" + c + "+"} {
			if syn.Name(s) != isName(s) || syn.Con(s) != isCon(s) {
				t.Errorf("%q: Name %v, Con %v", s, syn.Name(s), syn.Con(s))
			}
		}
	}
}

// expressions are expressions: each Kind, the limits, and a few greater ones.
func expressions() []nodes {
	long := "x" + strings.Repeat("y", 1<<16)
	l := []nodes{
		num(0), num(-1), num(api.MaxInt), num(api.MinInt), text(""), text("let"), text("\x00\n\xff"), text(strings.Repeat("\xff", 200)), v("x"), v("+"), v(long), con("X"), con("True"),
		fun("x", v("y")), fun("+", v("+")), app(v("f"), v("x")), app(v("+"), num(1), num(2)), let("x", num(1), v("x")), let("-", num(1), v("x")),
		rec("f", fun("x", v("f")), v("f")), rec("f", fun("f", v("f")), v("f")), rec("*", fun("x", v("x")), v("x")), cond(v("x"), v("y"), v("z")), raise(num(1)), try("x", v("x"), v("x")), try("+", v("x"), v("x")),
		match(v("x"), pAny(), v("y")), match(v("x"), pVar("x"), v("x"), pVar("x"), v("x")), match(v("x"), pInt(0), v("x"), pInt(0), v("y")), match(v("x"), pCon("Nil"), num(0), pCon("Cons", pVar("x"), pCon("Cons", pAny(), pVar("y"))), v("x"), pAny(), num(2)),
		match(match(v("x"), pAny(), v("y")), pVar("x"), match(v("x"), pVar("x"), v("y"))), fun("x", match(v("x"), pVar("x"), fun("x", v("x")))),
		raises(100), arms(4000), match(v("x"), cons(99), v("x")), match(v("x"), wide(3997), v("x")), within(98, api.Node{Kind: api.ExpFun, Text: "x"}, app(v("x"), v("y"))),
		let("x", fun("y", match(v("y"), pCon("A", pInt(1)), raise(num(2)))), try("e", app(v("x"), con("A")), cond(v("e"), text("a"), text("b")))),
	}
	s := source(1)
	for range 300 {
		l = append(l, s.expression(1+s.below(6)))
	}
	return l
}

// patterns are patterns.
func patterns() []nodes {
	l := []nodes{
		pAny(), pVar("x"), pVar("+"), pInt(0), pInt(api.MaxInt), pInt(api.MinInt), pCon("X"), pCon("X", pAny()), pCon("X", pAny(), pAny()), pCon("X", pVar("x"), pVar("y")), pCon("X", pCon("X", pVar("x")), pCon("X", pVar("y"), pInt(1)), pInt(1)),
		pCon("X", slices.Repeat([]nodes{pAny()}, 20)...), cons(100), wide(4000), slices.Concat(nodes{{Kind: api.PatCon, Text: "C", Kids: 3999}}, slices.Repeat(pAny(), 3999)),
	}
	s := source(2)
	for range 300 {
		p, _ := s.pattern(1+s.below(5), []string{"x", "y", "z", "+"})
		l = append(l, p)
	}
	return l
}

// P6.1: expressions are right and no patterns, patterns are right and no expressions.
func TestRight(t *testing.T) {
	for i, l := range expressions() {
		if e := syn.Check(l); e != api.OK {
			t.Errorf("Check of expression %d: %d", i, e)
		}
		if e := syn.Pat(l); e != api.ErrSynForm {
			t.Errorf("Pat of expression %d: %d", i, e)
		}
	}
	for i, p := range patterns() {
		if e := syn.Pat(p); e != api.OK {
			t.Errorf("Pat of pattern %d: %d", i, e)
		}
		if e := syn.Check(p); e != api.ErrSynForm {
			t.Errorf("Check of pattern %d: %d", i, e)
		}
	}
}

// noTrees are lists that are no tree, or too great a one.
func noTrees() map[string]nodes {
	x := v("x")
	return map[string]nodes{
		"nil":                    nil,
		"empty":                  {},
		"two trees":              slices.Concat(x, x),
		"two patterns":           slices.Concat(pAny(), pAny()),
		"a kid too few":          app(x, x)[:2],
		"a kid too many":         slices.Concat(app(x, x), x),
		"a kid's kid too few":    cond(x, x, app(x, x))[:5],
		"Kids -1":                {{Kind: api.ExpVar, Text: "x", Kids: -1}},
		"Kids -1 in it":          {{Kind: api.ExpRaise, Kids: 1}, {Kind: api.ExpVar, Text: "x", Kids: -1}},
		"Kids of all sizes":      {{Kind: api.ExpMatch, Kids: math.MaxInt}, x[0], pAny()[0], x[0]},
		"Kids that wrap":         {{Kind: api.PatCon, Text: "C", Kids: 1 << 32}, pAny()[0]},
		"the least Kids":         {{Kind: api.PatCon, Text: "C", Kids: math.MinInt}},
		"no kid":                 {{Kind: api.ExpRaise, Kids: 1}},
		"depth 101":              raises(101),
		"depth 101, pattern":     cons(101),
		"depth 101, in a match":  match(x, cons(100), x),
		"depth 101, last":        app(x, raises(100)),
		"depth 4000":             raises(4000),
		"4002 nodes":             arms(4002),
		"4001 nodes":             match(x, wide(3998), x),
		"4001 nodes, pattern":    wide(4001),
		"2^20 nodes":             arms(1 << 20),
		"2^20 nodes deep":        raises(1 << 20),
		"2^20 nodes, no tree":    slices.Repeat(x, 1<<20),
		"4001 nodes, no tree":    slices.Repeat(x, 4001),
		"4000 nodes, no tree":    slices.Repeat(x, 4000),
		"no tree, wrong form":    slices.Concat(nodes{{}}, x),
		"no tree, wrong name":    slices.Concat(v("in"), x),
		"no tree, a name twice":  slices.Concat(pCon("C", pVar("x"), pVar("x")), x),
		"too deep, wrong form":   within(100, api.Node{}, x),
		"too deep, wrong name":   within(100, api.Node{Kind: api.ExpFun, Text: "X"}, x),
		"too deep, a name twice": within(99, api.Node{Kind: api.PatCon, Text: "C"}, pCon("C", pVar("x"), pVar("x"))),
		"too many, a name twice": slices.Concat(nodes{{Kind: api.PatCon, Text: "C", Kids: 4000}}, slices.Repeat(pVar("x"), 4000)),
	}
}

// P6.1: ErrSynTree, before any other error.
func TestNoTree(t *testing.T) {
	for name, l := range noTrees() {
		if e := syn.Check(l); e != api.ErrSynTree {
			t.Errorf("%s: Check: %d", name, e)
		}
		if e := syn.Pat(l); e != api.ErrSynTree {
			t.Errorf("%s: Pat: %d", name, e)
		}
		if names := syn.Names(l); len(names) != 0 {
			t.Errorf("%s: Names: %q", name, names)
		}
		if names := syn.Free(l); len(names) != 0 {
			t.Errorf("%s: Free: %q", name, names)
		}
	}
}

// A wrong is a node that is wrong by itself, with its error; its kids are as its Kids say.
type wrong struct {
	n api.Node
	e api.Errno
}

// wrongKinds are nodes that may not be in any expression or pattern because of their Kinds.
func wrongKinds() []wrong {
	var l []wrong
	for _, kind := range []api.Kind{0, -1, 13, 14, 20, 25, 26, api.DocText, api.DocCat, api.TypVar, api.TypCon, api.ValInt, api.ValCon, api.PickArm, api.PickAt, api.ExpInt + 256, api.PatAny + 256, api.ExpVar + 1<<32, -api.ExpVar, math.MaxInt, math.MinInt} {
		for kids := range 4 {
			l = append(l, wrong{api.Node{Kind: kind, Kids: kids}, api.ErrSynForm}, wrong{api.Node{Kind: kind, Text: "x", Kids: kids}, api.ErrSynForm})
		}
	}
	return l
}

// wrongFields are, for the nodes of which these are the right forms, those with one wrong field, or with two.
func wrongFields(forms map[api.Kind]form) []wrong {
	var l []wrong
	for kind, f := range forms {
		n := api.Node{Kind: kind, Text: map[string]string{"t": "a b", "n": "x", "c": "X"}[f.fields]}
		for n.Kids = 0; n.Kids < 10; n.Kids++ {
			if _, ok := f.kidsOf(n.Kids); !ok {
				l = append(l, wrong{n, api.ErrSynForm})
			}
		}
		for n.Kids = 0; n.Kids < 6; n.Kids++ {
			if _, ok := f.kidsOf(n.Kids); ok {
				l = append(l, wrongNums(n, f)...)
				l = append(l, wrongTexts(n, f)...)
			}
		}
	}
	return l
}

// wrongNums are nodes like n, but with a wrong Num.
func wrongNums(n api.Node, f form) []wrong {
	var l []wrong
	for _, n.Num = range []int64{1 << 62, -1<<62 - 1, math.MaxInt64, math.MinInt64} {
		l = append(l, wrong{n, api.ErrSynForm})
	}
	if f.fields != "i" {
		for _, n.Num = range []int64{1, -1, 1 << 32, 1<<62 - 1, -1 << 62} {
			l = append(l, wrong{n, api.ErrSynForm})
			// This is told before a wrong name, and before a wrong Text.
			n := n
			n.Text = "\n"
			l = append(l, wrong{n, api.ErrSynForm})
		}
	}
	return l
}

// wrongTexts are nodes like n, but with a wrong Text.
func wrongTexts(n api.Node, f form) []wrong {
	e := api.ErrSynForm
	texts := []string{"x", "X", "+", " ", "in", "\x00", strings.Repeat("a", 201)}
	switch f.fields {
	case "t":
		texts = []string{strings.Repeat("a", 201), strings.Repeat("\xff", 201), strings.Repeat("é", 101), strings.Repeat("a", 1<<16)}
	case "n", "c":
		e = api.ErrSynName
		texts = append(slices.Clone(keys), "", " ", "x y", "x ", "1", "~1", "_x", "'x", "é", "xé", "x+", "x\x00", "\xff", "X", "x")
	}
	var l []wrong
	for _, s := range texts {
		if f.fields == "n" && isName(s) || f.fields == "c" && isCon(s) {
			continue
		}
		n.Text = s
		l = append(l, wrong{n, e})
	}
	return l
}

// grown returns the wrong node with kids as its Kind asks for, as far as they go.
func grown(n api.Node) nodes {
	l := nodes{n}
	f, ok := expForms()[n.Kind]
	if !ok {
		f, ok = patForms()[n.Kind]
	}
	for kid := range n.Kids {
		want := "e"
		if all, _ := f.kidsOf(n.Kids); kid < len(all) {
			want = all[kid : kid+1]
		}
		l = append(l, map[string]nodes{"e": v("k"), "f": fun("k", v("k")), "p": pAny()}[want]...)
	}
	return l
}

// places are an expression, or what is to be none, and expressions around it.
func places(l nodes) []nodes {
	x := v("x")
	return []nodes{
		l, fun("x", l), app(l, x), app(x, l), let("x", l, x), let("x", x, l), rec("f", fun("x", l), x), rec("f", fun("x", x), l), cond(l, x, x), cond(x, l, x), cond(x, x, l), raise(l), try("x", l, x), try("x", x, l),
		match(l, pAny(), x), match(x, pAny(), l), match(x, pAny(), l, pAny(), x), match(x, pAny(), x, pAny(), l), within(80, api.Node{Kind: api.ExpRaise}, l),
	}
}

// patPlaces are a pattern, or what is to be none, and patterns around it.
func patPlaces(p nodes) []nodes {
	return []nodes{p, pCon("C", p), pCon("C", p, pAny()), pCon("C", pAny(), p), pCon("C", pInt(1), pCon("D", pVar("k"), p), pVar("l")), within(80, api.Node{Kind: api.PatCon, Text: "C"}, p)}
}

// matches are expressions around a pattern.
func matches(p nodes) []nodes {
	x := v("x")
	return []nodes{match(x, p, x), match(x, p, x, pAny(), x), match(x, pAny(), x, p, x), fun("x", match(x, pVar("x"), match(x, p, x)))}
}

// wants compares Check and Pat of l with what they are to return, and asks that l has no names if it is not right.
func wants(t *testing.T, what string, l nodes, check, pat api.Errno) {
	t.Helper()
	if e := syn.Check(l); e != check {
		t.Errorf("%s: Check(%.300s) = %d, not %d", what, show(l), e, check)
	}
	if e := syn.Pat(l); e != pat {
		t.Errorf("%s: Pat(%.300s) = %d, not %d", what, show(l), e, pat)
	}
	if names := syn.Free(l); check != api.OK && len(names) != 0 {
		t.Errorf("%s: Free(%.300s) = %q", what, show(l), names)
	}
	if names := syn.Names(l); pat != api.OK && len(names) != 0 {
		t.Errorf("%s: Names(%.300s) = %q", what, show(l), names)
	}
}

// show writes a list of nodes.
func show(l nodes) string {
	var s strings.Builder
	for _, n := range l {
		s.WriteString("{" + strconv.Itoa(int(n.Kind)) + " " + strconv.Quote(n.Text) + " " + strconv.FormatInt(n.Num, 10) + " " + strconv.Itoa(n.Kids) + "}")
	}
	return s.String()
}

// P6.1: nodes that are wrong by themselves, at any place of an expression.
func TestWrongExpressions(t *testing.T) {
	for _, w := range slices.Concat(wrongKinds(), wrongFields(expForms())) {
		l := grown(w.n)
		if !tree.Whole(l) {
			t.Fatal("no tree", show(l))
		}
		for _, all := range places(l) {
			wants(t, "a wrong node", all, w.e, api.ErrSynForm)
		}
		for _, p := range patPlaces(l)[1:] {
			wants(t, "a wrong node in a pattern", p, api.ErrSynForm, api.ErrSynForm)
		}
	}
}

// P6.1: nodes that are wrong by themselves, at any place of a pattern.
func TestWrongPatterns(t *testing.T) {
	for _, w := range slices.Concat(wrongKinds(), wrongFields(patForms())) {
		l := grown(w.n)
		for _, p := range patPlaces(l) {
			wants(t, "a wrong node", p, api.ErrSynForm, w.e)
			for _, all := range matches(p) {
				wants(t, "a wrong node in a match", all, w.e, api.ErrSynForm)
			}
		}
	}
}

// P6.1: a Kind that is not allowed at its place.
func TestWrongPlaces(t *testing.T) {
	for _, p := range []nodes{pAny(), pVar("x"), pInt(1), pCon("C"), pCon("C", pAny())} {
		for _, all := range places(p) {
			want := api.OK
			if len(all) > len(p) {
				want = api.ErrSynForm
			}
			wants(t, "a pattern in an expression", all, api.ErrSynForm, want)
		}
	}
	for _, l := range []nodes{num(1), text("a"), v("x"), con("C"), fun("x", v("x")), app(v("x"), v("x")), let("x", v("x"), v("x")), rec("f", fun("x", v("x")), v("x")), cond(v("x"), v("x"), v("x")), match(v("x"), pAny(), v("x")), raise(v("x")), try("x", v("x"), v("x"))} {
		for _, p := range patPlaces(l)[1:] {
			wants(t, "an expression in a pattern", p, api.ErrSynForm, api.ErrSynForm)
		}
		for _, p := range patPlaces(l) {
			for _, all := range matches(p) {
				wants(t, "an expression in a match", all, api.ErrSynForm, api.ErrSynForm)
			}
		}
		if l[0].Kind != api.ExpFun {
			for _, all := range places(rec("f", l, v("x"))) {
				wants(t, "no function of an ExpRec", all, api.ErrSynForm, api.ErrSynForm)
			}
		}
	}
}

// P6.1: the first node that has an error counts, and of a node its form before its name.
func TestFirstError(t *testing.T) {
	x, form, name := v("x"), num(1<<62), v("in")
	double := pCon("C", pVar("x"), pVar("x"))
	for i, w := range []struct {
		l nodes
		e api.Errno
	}{
		{app(form, name), api.ErrSynForm},
		{app(name, form), api.ErrSynName},
		{app(app(x, name), form), api.ErrSynName},
		{app(app(x, form), name), api.ErrSynForm},
		{fun("X", form), api.ErrSynName},
		{fun("X", name), api.ErrSynName},
		{fun("x", form), api.ErrSynForm},
		{let("in", form, form), api.ErrSynName},
		{try("", x, form), api.ErrSynName},
		{cond(x, name, pAny()), api.ErrSynName},
		{cond(x, pAny(), name), api.ErrSynForm},
		// A kid that may not stand there is wrong itself, not the node that has it, unless this is an ExpRec.
		{fun("X", pAny()), api.ErrSynName},
		{let("X", pAny(), x), api.ErrSynName},
		{try("X", x, pAny()), api.ErrSynName},
		{match(name, x, x), api.ErrSynName},
		{match(x, x, name), api.ErrSynForm},
		{match(name, x), api.ErrSynForm},
		{rec("F", x, x), api.ErrSynForm},
		{rec("F", pAny(), x), api.ErrSynForm},
		{rec("F", app(fun("x", x), x), x), api.ErrSynForm},
		{rec("F", x, name), api.ErrSynForm},
		{rec("f", name, x), api.ErrSynForm},
		{rec("f", con("x"), name), api.ErrSynForm},
		{rec("F", fun("x", x), form), api.ErrSynName},
		{rec("F", fun("X", form), form), api.ErrSynName},
		{rec("f", fun("X", form), form), api.ErrSynName},
		{rec("f", fun("x", x), pAny()), api.ErrSynForm},
		{rec("f", x, fun("x", x)), api.ErrSynForm},
		{app(name, rec("f", x, x)), api.ErrSynName},
		{app(rec("f", x, x), name), api.ErrSynForm},
		{rec("f", fun("x", x), rec("f", fun("x", x), x)), api.OK},
		{rec("f", fun("x", rec("f", x, x)), name), api.ErrSynForm},
		// A name that a pattern has twice is told only if no node is wrong by itself, be it before or behind.
		{match(x, double, x), api.ErrSynTwice},
		{match(name, double, x), api.ErrSynName},
		{match(x, double, name), api.ErrSynName},
		{match(x, double, form), api.ErrSynForm},
		{match(x, double, x, pAny(), name), api.ErrSynName},
		{match(x, pCon("C", double, pVar("In")), x), api.ErrSynName},
		{match(x, pCon("C", double, x), x), api.ErrSynForm},
		{match(x, pCon("C", double, pInt(1<<62)), x), api.ErrSynForm},
		{app(match(x, double, x), form), api.ErrSynForm},
		{app(match(x, double, x), match(x, double, x)), api.ErrSynTwice},
		{app(x, match(x, pAny(), x, pAny(), match(x, double, x))), api.ErrSynTwice},
		{match(match(x, double, x), pAny(), x), api.ErrSynTwice},
	} {
		wants(t, strconv.Itoa(i), w.l, w.e, api.ErrSynForm)
	}
}

// P6.1: a name twice in one pattern, however deep, but not in two patterns.
func TestTwice(t *testing.T) {
	x, y := pVar("x"), pVar("y")
	for i, w := range []struct {
		p nodes
		e api.Errno
	}{
		{pCon("C", x, x), api.ErrSynTwice},
		{pCon("C", x, y, x), api.ErrSynTwice},
		{pCon("C", x, y, y), api.ErrSynTwice},
		{pCon("C", pVar("+"), pVar("+")), api.ErrSynTwice},
		{pCon("C", x, pCon("C", x)), api.ErrSynTwice},
		{pCon("C", pCon("C", x), x), api.ErrSynTwice},
		{pCon("C", pCon("C", x), pCon("C", x)), api.ErrSynTwice},
		{pCon("C", pCon("C", pCon("C", y, x)), pInt(1), pCon("D", pAny(), pCon("E", x))), api.ErrSynTwice},
		{pCon("C", pCon("C", x, x), pVar("X")), api.ErrSynName},
		{pCon("c", x, x), api.ErrSynName},
		{pCon("C", wide(3998), pVar(letters(3996))), api.ErrSynTwice},
		{pCon("C", wide(3998), pVar(letters(0))), api.ErrSynTwice},
		{pCon("C", wide(3998), pVar("other")), api.OK},
		{slices.Concat(nodes{{Kind: api.PatCon, Text: "C", Kids: 3999}}, slices.Repeat(x, 3999)), api.ErrSynTwice},
		{pCon("C", x, y), api.OK},
		{pCon("C", x, pVar("x'"), pVar("xx")), api.OK},
		{pCon("C", pInt(1), pInt(1), pAny(), pAny(), pCon("D"), pCon("D")), api.OK},
	} {
		wants(t, strconv.Itoa(i), w.p, api.ErrSynForm, w.e)
		if all := match(v("x"), w.p, v("x")); len(all) <= api.MaxNodes {
			wants(t, strconv.Itoa(i), all, w.e, api.ErrSynForm)
		}
	}
	two := match(v("x"), pCon("C", x, y), v("x"), pCon("C", x, y), match(v("x"), pCon("C", x, y), v("x")))
	wants(t, "names in several patterns", two, api.OK, api.ErrSynForm)
}

// compare compares Check, Pat, Names and Free of a small tree with the models.
func compare(t *testing.T, l nodes) {
	t.Helper()
	want, _ := modelCheck(l, 'e')
	if e := syn.Check(l); e != want {
		t.Fatalf("Check(%s) = %d, not %d", show(l), e, want)
	}
	var free []string
	if want == api.OK {
		_, free = modelFree(l, 0, nil, nil)
	}
	if names := syn.Free(l); !slices.Equal(names, free) {
		t.Fatalf("Free(%s) = %q, not %q", show(l), names, free)
	}
	want, sets := modelCheck(l, 'p')
	if e := syn.Pat(l); e != want {
		t.Fatalf("Pat(%s) = %d, not %d", show(l), e, want)
	}
	var in []string
	if want == api.OK {
		in = sets[0]
	}
	if names := syn.Names(l); !slices.Equal(names, in) {
		t.Fatalf("Names(%s) = %q, not %q", show(l), names, in)
	}
}

// kinds are nodes of all Kinds, and a few that are wrong.
func kinds() nodes {
	return nodes{
		num(1)[0], text("a")[0], v("x")[0], v("y")[0], con("C")[0], {Kind: api.ExpFun, Text: "x"}, {Kind: api.ExpApp}, {Kind: api.ExpLet, Text: "x"}, {Kind: api.ExpRec, Text: "x"}, {Kind: api.ExpIf}, {Kind: api.ExpMatch}, {Kind: api.ExpRaise}, {Kind: api.ExpTry, Text: "y"},
		pAny()[0], pVar("x")[0], pVar("y")[0], pInt(1)[0], pCon("C")[0],
		{}, v("C")[0], num(1 << 62)[0], pVar("in")[0],
	}
}

// trees calls see with each tree of that many nodes, each like one of these.
func trees(size int, of nodes, see func(l nodes)) {
	l := make(nodes, 0, size)
	var more func(open int)
	// Backwards: the next node may have as many kids as there are trees behind it.
	more = func(open int) {
		if len(l) == size {
			if open == 1 {
				back := slices.Clone(l)
				slices.Reverse(back)
				see(back)
			}
			return
		}
		for _, n := range of {
			for n.Kids = 0; n.Kids <= open; n.Kids++ {
				l = append(l, n)
				more(open - n.Kids + 1)
				l = l[:len(l)-1]
			}
		}
	}
	more(0)
}

// P6.1, P6.2: all trees of up to three nodes of all kinds, and of up to six of a few.
func TestSmallTrees(t *testing.T) {
	few := nodes{v("x")[0], {Kind: api.ExpFun, Text: "x"}, {Kind: api.ExpMatch}, pVar("x")[0], pCon("C")[0]}
	binders := nodes{v("x")[0], {Kind: api.ExpFun, Text: "x"}, {Kind: api.ExpRec, Text: "x"}, {Kind: api.ExpLet, Text: "x"}}
	seen := 0
	see := func(l nodes) {
		seen++
		compare(t, l)
	}
	for size := 1; size <= 3; size++ {
		trees(size, kinds(), see)
	}
	if want := 22 + 22*22 + 2*22*22*22; seen != want {
		t.Fatalf("%d trees, not %d", seen, want)
	}
	for size := 4; size <= 6; size++ {
		trees(size, few, see)
	}
	for size := 4; size <= 6; size++ {
		trees(size, binders, see)
	}
}

// P6.1, P6.2: greater trees, most of them with one node that is another one.
func TestGreaterTrees(t *testing.T) {
	s := source(6)
	others := kinds()
	for i := range 20000 {
		var l nodes
		if i%4 == 0 {
			l, _ = s.pattern(1+s.below(5), []string{"x", "y", "z"})
		} else {
			l = s.expression(1 + s.below(6))
		}
		if i%8 > 1 {
			at := s.below(len(l))
			n := others[s.below(len(others))]
			n.Kids = l[at].Kids
			l[at] = n
		}
		if len(l) <= api.MaxNodes {
			compare(t, l)
		}
	}
}

// P1: arguments stay as they are, their unused capacity included.
func TestArgumentsStay(t *testing.T) {
	inner := slices.Concat(rec("f", fun("x", v("y")), match(v("x"), pCon("C", pVar("x"), pVar("z")), app(v("x"), v("f")))), nodes{{Kind: 99, Text: "behind"}})
	p := slices.Concat(pCon("C", pVar("x"), pCon("D", pVar("y"))), nodes{{Kind: 99, Text: "behind"}})
	for _, all := range []nodes{inner, p} {
		kept := slices.Clone(all)
		l := all[:len(all)-1]
		syn.Check(l)
		syn.Pat(l)
		syn.Names(l)
		syn.Free(l)
		if !slices.Equal(all, kept) {
			t.Error("an argument has changed", show(all))
		}
	}
}

// P1: results share no memory with each other.
func TestResultsAreNew(t *testing.T) {
	p, l := pCon("C", pVar("x"), pVar("y")), app(v("x"), v("y"))
	for _, call := range []func() []string{func() []string { return syn.Names(p) }, func() []string { return syn.Free(l) }} {
		first := call()
		clear(first[:cap(first)])
		if second := call(); !slices.Equal(second, []string{"x", "y"}) {
			t.Error("a later result is", second)
		}
	}
}
