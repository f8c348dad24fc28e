package data_test

import (
	"slices"
	"testing"

	"triglyph/api"
	"triglyph/data"
)

// behind returns a list with one more element in its capacity that is not in the list.
func behind[T any](l []T, last T) []T { return append(slices.Clone(l), last)[:len(l)] }

// bad is what stands behind lists.
func bad() api.Node { return api.Node{Kind: 99, Text: "behind"} }

// deep returns the declarations l, with something behind each list in them.
func deep(l []api.Data) []api.Data {
	var all []api.Data
	for _, d := range l {
		var cons []api.Ctor
		for _, c := range d.Cons {
			var args []nodes
			for _, arg := range c.Args {
				args = append(args, behind(arg, bad()))
			}
			cons = append(cons, api.Ctor{Name: c.Name, Args: behind(args, nodes{bad()})})
		}
		all = append(all, api.Data{Name: d.Name, Params: d.Params, Cons: behind(cons, ctor("behind"))})
	}
	return behind(all, unit("behind"))
}

// intact tells whether the declarations l are those that deep returned of want.
func intact(l, want []api.Data) bool {
	if !sameData(l, want) || l[:len(l)+1][len(l)].Name != "behind" {
		return false
	}
	for _, d := range l {
		if d.Cons[:len(d.Cons)+1][len(d.Cons)].Name != "behind" {
			return false
		}
		for _, c := range d.Cons {
			if last := c.Args[:len(c.Args)+1][len(c.Args)]; !slices.Equal(last, nodes{bad()}) {
				return false
			}
			for _, arg := range c.Args {
				if arg[:len(arg)+1][len(arg)] != bad() {
					return false
				}
			}
		}
	}
	return true
}

// some are declarations that may stand together, and ones that may not, with each error.
func some() [][]api.Data {
	tree := decl("Tree", 2, ctor("Leaf", v(1), fun(v(0), v(1))), ctor("Fork", con("Tree", v(0), v(1)), con("List", con("Tree", v(0), v(1)))))
	return [][]api.Data{decls(list(), tree), decls(tree, list(), tree), decls(tree), decls(list(), tree, decl("A", 0)), nil}
}

// P1: arguments stay as they are, their unused capacity included.
func TestArgumentsStay(t *testing.T) {
	for i, want := range some() {
		l := deep(want)
		for range 2 {
			data.Check(l)
			data.Sigs(l)
			for _, con := range []string{"Nil", "Cons", "Leaf", "Fork", "Tree", "behind"} {
				data.Find(l, con)
				data.Family(l, con)
			}
		}
		if !intact(l, want) {
			t.Errorf("declarations %d have changed: %s", i, tell(l))
		}
	}
	f := fun(v(0), fun(v(1), v(2)))
	x, y := behind(f, bad()), behind(con("List", f), bad())
	args := behind([]nodes{x, y}, nodes{bad()})
	for range 2 {
		data.Parts(x)
		data.Parts(y)
		data.Arrow(args, x)
		data.Arrow(nil, y)
		data.Arrow(args[:1], y)
	}
	if !slices.Equal(x, f) || x[:6][5] != bad() || !slices.Equal(y, con("List", f)) || y[:7][6] != bad() || !sameTypes(args[:3], []nodes{f, con("List", f), {bad()}}) {
		t.Error("arguments have changed:", show(x), show(y))
	}
}

// P1: results share no memory with arguments, nor with later results, nor with each other.
func TestResultsAreNew(t *testing.T) {
	l := decls(list(), unit("Unit"))
	for range 2 {
		sigs, _ := data.Sigs(l)
		if !sameSigs(sigs, modelSigs(decls(list(), unit("Unit")))) {
			t.Errorf("a later result of Sigs: %d", len(sigs))
		}
		for i := range sigs {
			_ = append(sigs[i].Type, bad())
			clear(sigs[i].Type[:cap(sigs[i].Type)])
			if want := modelSigs(decls(list(), unit("Unit"))); !sameSigs(sigs[i+1:], want[i+1:]) {
				t.Errorf("the types behind that of %s have changed", sigs[i].Name)
			}
		}
		clear(sigs[:cap(sigs)])
		family := data.Family(l, "Cons")
		if !sameCtors(family, list().Cons) {
			t.Errorf("a later result of Family: %d", len(family))
		}
		clear(family[:cap(family)])
		if !sameData(l, decls(list(), unit("Unit"))) {
			t.Fatal("the declarations have changed:", tell(l))
		}
	}
	to := con("List", v(0))
	for range 2 {
		for _, args := range [][]nodes{nil, {to}, {to, to}} {
			x := data.Arrow(args, to)
			if !slices.Equal(x, modelArrow(args, con("List", v(0)))) {
				t.Errorf("a later result of Arrow: %s", show(x))
			}
			clear(x[:cap(x)])
		}
	}
	f := fun(v(0), fun(con("ref", v(1)), v(2)))
	for range 2 {
		args, last := data.Parts(f)
		want, _ := modelParts(fun(v(0), fun(con("ref", v(1)), v(2))))
		if !sameTypes(args, want) || !slices.Equal(last, v(2)) {
			t.Errorf("a later result of Parts: %d and %s", len(args), show(last))
		}
		for i, arg := range args {
			clear(arg[:cap(arg)])
			if !sameTypes(args[i+1:], want[i+1:]) || !slices.Equal(last, v(2)) {
				t.Errorf("the parts behind %d have changed", i)
			}
		}
		clear(last[:cap(last)])
		clear(args[:cap(args)])
	}
	if !slices.Equal(f, fun(v(0), fun(con("ref", v(1)), v(2)))) {
		t.Error("the type has changed:", show(f))
	}
}
