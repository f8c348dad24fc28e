package pat

import (
	"slices"

	"triglyph/api"
	"triglyph/data"
	"triglyph/syn"
	"triglyph/tree"
	"triglyph/typ"
)

// A use is a constructor at a type, which is told by its index.
type use struct {
	t   int
	con string
}

// A known is what is known of types under valid declarations. Each type is kept once, as many parts of a pattern may
// have the same great type.
type known struct {
	l     []api.Data
	types [][]api.Node
	at    map[string]int // the index of each type, by its text
	uses  map[use][]int  // the indexes of the arguments' types
}

// know returns what is known of the type t, whose index is told, too. It returns false if l is not valid or t is not a
// type.
func know(l []api.Data, t []api.Node) (*known, int, bool) {
	if data.Check(l) != api.OK || typ.Check(t) != api.OK {
		return nil, 0, false
	}
	k := &known{l: l, at: map[string]int{}, uses: map[use][]int{}}
	return k, k.index(t), true
}

// knowAll does the same, and also returns false if one of the patterns does not have the type t.
func knowAll(l []api.Data, t []api.Node, pats [][]api.Node) (*known, int, bool) {
	k, root, ok := know(l, t)
	wrong := func(p []api.Node) bool { return !k.fits(root, p) }
	if !ok || slices.ContainsFunc(pats, wrong) {
		return nil, 0, false
	}
	return k, root, true
}

// index returns the index of the type t.
func (k *known) index(t []api.Node) int {
	text, _ := typ.Show(t)
	at, met := k.at[text]
	if !met {
		at = len(k.types)
		k.types = append(k.types, t)
		k.at[text] = at
	}
	return at
}

// args returns the types of the arguments of the constructor con at the type t, and true; or nothing and false if they
// are not defined.
func (k *known) args(t int, con string) ([]int, bool) {
	args, met := k.uses[use{t, con}]
	if met {
		return args, true
	}
	at, i, found := data.Find(k.l, con)
	root := k.types[t][0]
	if !found || k.l[at].Name != root.Text || k.l[at].Params != root.Kids {
		return nil, false
	}
	var params []api.Bind
	for num, kid := range tree.Kids(k.types[t], 0) {
		params = append(params, api.Bind{Var: num, Type: k.types[t][kid:tree.End(k.types[t], kid)]})
	}
	for _, arg := range k.l[at].Cons[i].Args {
		args = append(args, k.index(applied(params, arg)))
	}
	k.uses[use{t, con}] = args
	return args, true
}

// applied returns the type arg with its variables, which are those from 0 on, replaced; or the variable 0 if that has
// too many nodes.
func applied(params []api.Bind, arg []api.Node) []api.Node {
	size := 0
	for _, n := range arg {
		if n.Kind == api.TypVar {
			size += len(params[n.Num].Type)
		} else {
			size++
		}
	}
	if size > api.MaxNodes {
		return []api.Node{{Kind: api.TypVar}}
	}
	return typ.Apply(params, arg)
}

// fits reports whether p is a pattern of the type t.
func (k *known) fits(t int, p []api.Node) bool {
	return syn.Pat(p) == api.OK && k.visit(t, p, func(int) {})
}

// visit calls see with the type of each node of a pattern or a value, in order, until one does not have it. It reports
// whether the whole has the type root.
func (k *known) visit(root int, l []api.Node, see func(t int)) bool {
	next := []int{root} // the types of the trees that have yet to begin, the nearest one last
	for _, n := range l {
		t := next[len(next)-1]
		next = next[:len(next)-1]
		if n.Kind != api.PatCon && n.Kind != api.ValCon {
			if !k.leaf(n.Kind, t) {
				return false
			}
			see(t)
			continue
		}
		args, ok := k.args(t, n.Text)
		if !ok || len(args) != n.Kids {
			return false
		}
		see(t)
		for _, arg := range slices.Backward(args) {
			next = append(next, arg)
		}
	}
	return true
}

// leaf reports whether a pattern, or a value, of this Kind, which is no constructor, has the type t.
func (k *known) leaf(kind api.Kind, t int) bool {
	root := k.types[t][0]
	switch kind {
	case api.PatInt, api.ValInt:
		return root.Text == "int"
	case api.ValText:
		return root.Text == "text"
	case api.ValFun:
		return root.Kind == api.TypVar || root.Text == "->" || root.Text == "ref"
	}
	return true
}
