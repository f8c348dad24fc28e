package syn

import (
	"triglyph/api"
	"triglyph/tree"
)

// Free returns the free names of the expression l, each once, in the order of their first free occurrence; none if
// l is no expression.
func Free(l []api.Node) []string {
	if Check(l) != api.OK {
		return nil
	}
	var names []string
	told := map[string]struct{}{}
	f := finder{l: l, bound: map[string]struct{}{}, found: func(name string) {
		if _, again := told[name]; !again {
			told[name] = struct{}{}
			names = append(names, name)
		}
	}}
	f.find(0)
	return names
}

// A finder goes through one expression in search of names that are not bound at their place.
type finder struct {
	l     []api.Node
	bound map[string]struct{} // the names that are bound at the place that the finder has come to
	found func(name string)
}

// find calls found for each free name, as often as it occurs, of the expression at the index at, and returns the
// index after it.
func (f finder) find(at int) int {
	n := f.l[at]
	if n.Kind == api.ExpVar {
		f.meet(n.Text)
	}
	var names []string // those that the next kid has bound
	next := at + 1
	for kid := range n.Kids {
		if expression.below(n.Kind, kid) == pattern {
			names = variables(f.l, next)
			next = tree.End(f.l, next)
			continue
		}
		if binds(n.Kind, kid) {
			names = []string{n.Text}
		}
		release := f.bind(names)
		next = f.find(next)
		release()
	}
	return next
}

// meet calls found for a name that is not bound.
func (f finder) meet(name string) {
	if _, ok := f.bound[name]; !ok {
		f.found(name)
	}
}

// binds reports whether a node of that Kind has its own name bound in that kid; kids are counted from 0.
func binds(kind api.Kind, kid int) bool {
	switch kind {
	case api.ExpFun, api.ExpRec:
		return true
	case api.ExpLet, api.ExpTry:
		return kid == 1
	}
	return false
}

// bind binds names, until the function that it returns is called.
func (f finder) bind(names []string) (release func()) {
	// A name that is bound further outside stays bound there when this binding has ended.
	var fresh []string
	for _, name := range names {
		if _, ok := f.bound[name]; !ok {
			f.bound[name] = struct{}{}
			fresh = append(fresh, name)
		}
	}
	return func() {
		for _, name := range fresh {
			delete(f.bound, name)
		}
	}
}
