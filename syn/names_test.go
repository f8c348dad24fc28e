package syn_test

import (
	"slices"
	"strconv"
	"testing"

	"triglyph/api"
	"triglyph/syn"
	"triglyph/tree"
)

// P6.2: the names of patterns, in order, and none of anything else.
func TestNames(t *testing.T) {
	for i, x := range []struct {
		p    nodes
		want []string
	}{
		{pAny(), nil},
		{pInt(1), nil},
		{pCon("C"), nil},
		{pVar("x"), []string{"x"}},
		{pVar("+"), []string{"+"}},
		{pCon("C", pVar("x"), pVar("y")), []string{"x", "y"}},
		{pCon("C", pVar("y"), pVar("x")), []string{"y", "x"}},
		{pCon("C", pVar("y"), pAny(), pCon("D", pVar("+"), pInt(1), pVar("a")), pVar("x")), []string{"y", "+", "a", "x"}},
		{pCon("C", pCon("C", pCon("C", pVar("z"))), pVar("b"), pCon("E")), []string{"z", "b"}},
		{cons(100), []string{"x"}},
		{cons(101), nil},
		{pCon("C", pVar("x"), pVar("x")), nil},
		{pCon("C", pVar("x"), pVar("Y")), nil},
		{pCon("C", pVar("x"), v("y")), nil},
		{pCon("C", pVar("x"), pVar("y"))[:2], nil},
		{v("x"), nil},
		{fun("x", v("x")), nil},
		{match(v("x"), pVar("y"), v("z")), nil},
		{nil, nil},
	} {
		if names := syn.Names(x.p); !slices.Equal(names, x.want) {
			t.Errorf("%d: %q, not %q", i, names, x.want)
		}
	}
	names := syn.Names(wide(4000))
	if len(names) != 3999 || names[0] != letters(0) || names[3998] != letters(3998) {
		t.Errorf("the names of a wide pattern are %d", len(names))
	}
}

// P6.2: which names are bound where.
func TestFree(t *testing.T) {
	x, y, f := v("x"), v("y"), v("f")
	for i, w := range []struct {
		l    nodes
		want []string
	}{
		{x, []string{"x"}},
		{v("+"), []string{"+"}},
		{num(1), nil},
		{text("x"), nil},
		{con("X"), nil},
		{fun("x", app(v("+"), x, y)), []string{"+", "y"}},
		// Each once, in the order in which they occur free.
		{app(x, y, x), []string{"x", "y"}},
		{app(y, x, y), []string{"y", "x"}},
		{app(fun("x", x), y, x), []string{"y", "x"}},
		{app(fun("x", app(x, y)), x), []string{"y", "x"}},
		{cond(v("c"), v("b"), v("a")), []string{"c", "b", "a"}},
		{raise(x), []string{"x"}},
		// A function.
		{fun("x", x), nil},
		{fun("x", y), []string{"y"}},
		{fun("+", v("+")), nil},
		{fun("x", fun("y", app(x, y))), nil},
		{fun("x", fun("x", app(x, y))), []string{"y"}},
		{fun("x", app(fun("x", x), x)), nil},
		{app(fun("x", fun("x", x)), x), []string{"x"}},
		{fun("x", app(fun("y", y), y)), []string{"y"}},
		// A let binds in its second kid only.
		{let("x", x, x), []string{"x"}},
		{let("x", y, x), []string{"y"}},
		{let("x", y, app(x, y)), []string{"y"}},
		{let("y", x, app(x, y)), []string{"x"}},
		{let("x", num(1), let("x", x, x)), nil},
		{let("x", let("x", x, x), x), []string{"x"}},
		{let("x", let("y", num(1), y), app(x, y)), []string{"y"}},
		// A let rec binds in both.
		{rec("f", fun("x", app(f, x)), f), nil},
		{rec("f", fun("x", app(f, y)), app(f, x)), []string{"y", "x"}},
		{rec("f", fun("f", f), f), nil},
		{app(rec("f", fun("f", f), f), f), []string{"f"}},
		{rec("x", fun("y", x), y), []string{"y"}},
		{rec("f", fun("x", x), x), []string{"x"}},
		// A try binds in its second kid only.
		{try("x", x, x), []string{"x"}},
		{try("x", y, x), []string{"y"}},
		{try("x", num(1), app(x, y)), []string{"y"}},
		{app(try("x", num(1), x), x), []string{"x"}},
		// A pattern binds in the expression that follows it only.
		{match(x, pVar("x"), x), []string{"x"}},
		{match(y, pVar("x"), x), []string{"y"}},
		{match(y, pAny(), x), []string{"y", "x"}},
		{match(num(1), pVar("x"), y, pVar("y"), x), []string{"y", "x"}},
		{match(num(1), pVar("x"), x, pAny(), x), []string{"x"}},
		{match(num(1), pInt(1), x, pVar("x"), x), []string{"x"}},
		{match(num(1), pCon("C", pVar("x"), pCon("D", pVar("y"))), app(x, y, f)), []string{"f"}},
		{match(num(1), pCon("C", pVar("x"), pVar("y")), x, pCon("C", pVar("y")), app(y, x)), []string{"x"}},
		{match(num(1), pVar("x"), match(x, pVar("x"), x, pAny(), x), pAny(), y), []string{"y"}},
		{match(match(x, pVar("x"), x), pVar("y"), app(x, y)), []string{"x"}},
		{fun("x", match(x, pVar("x"), x, pAny(), x)), nil},
		{match(num(1), pVar("+"), v("+")), nil},
		// Constructors, texts and operators of the same spelling are other things.
		{fun("x", app(text("x"), con("X"))), nil},
		{match(con("X"), pCon("X"), con("X")), nil},
		// What is no expression.
		{nil, nil},
		{pVar("x"), nil},
		{pCon("C", pVar("x")), nil},
		{app(x, v("in")), nil},
		{app(x, pAny()), nil},
		{slices.Concat(x, y), nil},
		{app(x, y)[:2], nil},
		{app(x, match(y, pCon("C", pVar("x"), pVar("x")), y)), nil},
		{rec("f", x, y), nil},
		{raises(101), nil},
		{raises(100), []string{"x"}},
	} {
		if names := syn.Free(w.l); !slices.Equal(names, w.want) {
			t.Errorf("%d: %q, not %q", i, names, w.want)
		}
	}
}

// P6.2: as many names as there may be, bound or free.
func TestFreeGreatExpressions(t *testing.T) {
	var vars []string
	l := nodes{{Kind: api.ExpMatch, Kids: 3999}, v("x")[0]}
	for i := range 1999 {
		vars = append(vars, letters(i))
		l = slices.Concat(l, pVar("x"), v(letters(i)))
	}
	if names := syn.Free(l); !slices.Equal(names, append([]string{"x"}, vars...)) {
		t.Errorf("%d free names, not 2000", len(names))
	}
	// Each arm binds its own name only: the last one's is free in the first one.
	for i := 2; i < len(l); i += 2 {
		l[i].Text = l[i+1].Text
	}
	l[3].Text = l[len(l)-1].Text
	if names := syn.Free(l); !slices.Equal(names, []string{"x", letters(1998)}) {
		t.Errorf("free in 1999 arms: %q", names)
	}
	all := match(v("x"), wide(3900), app(v(letters(0)), v(letters(3898)), v("x")))
	if names := syn.Free(all); !slices.Equal(names, []string{"x"}) {
		t.Errorf("free in a match of 3899 names: %q", names)
	}
	deep := v("y")
	var bound []string
	for i := range 99 {
		bound = append(bound, letters(i))
		deep = fun(letters(i), deep)
	}
	if names := syn.Free(deep); !slices.Equal(names, []string{"y"}) {
		t.Errorf("free in 99 functions: %q", names)
	}
	deep[len(deep)-1].Text = bound[50]
	if names := syn.Free(deep); len(names) != 0 {
		t.Errorf("free in 99 functions: %q", names)
	}
}

// parts returns the expressions in an expression, itself included.
func parts(l nodes, at int) []nodes {
	sub, _ := tree.Sub(l, at)
	all := []nodes{sub}
	for kid, i := range tree.Kids(l, at) {
		if l[at].Kind != api.ExpMatch || kid%2 == 0 {
			all = append(all, parts(l, i)...)
		}
	}
	return all
}

// P6.3: the parts of an expression at which an expression may stand are expressions.
func TestPartsAreExpressions(t *testing.T) {
	for i, l := range expressions() {
		for j, part := range parts(l, 0) {
			if e := syn.Check(part); e != api.OK {
				t.Errorf("part %d of expression %d: %d", j, i, e)
			}
		}
	}
}

// P6.3: the free names of a function are those of its body without its name.
func TestFreeOfFunctions(t *testing.T) {
	for i, l := range expressions() {
		if tree.Deep(l) == api.MaxDeep || len(l) == api.MaxNodes {
			continue
		}
		for _, name := range []string{"x", "y", "f'", "+", "other"} {
			want := slices.DeleteFunc(syn.Free(l), func(s string) bool { return s == name })
			if names := syn.Free(fun(name, l)); !slices.Equal(names, want) {
				t.Errorf("expression %s in a function of %s: %q, not %q", strconv.Itoa(i), name, names, want)
			}
		}
	}
}
