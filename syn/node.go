package syn

import (
	"triglyph/api"
	"triglyph/word"
)

// A place is what may stand where a node stands.
type place int

const (
	expression place = iota
	pattern          // a whole pattern
	part             // a pattern that is in another one
)

// below returns the place of a kid of a node of that Kind at the place p; kids are counted from 0.
func (p place) below(kind api.Kind, kid int) place {
	switch {
	case p != expression:
		return part
	case kind == api.ExpMatch && kid%2 == 1:
		return pattern
	}
	return expression
}

// allows reports whether a node of that Kind may stand at the place p.
func (p place) allows(kind api.Kind) bool {
	if p == expression {
		return api.ExpInt <= kind && kind <= api.ExpTry
	}
	return api.PatAny <= kind && kind <= api.PatCon
}

// visit calls see for each node of the tree l, in order, with its index and its place, until see returns an error,
// which visit returns, too. The root is at the place root.
func visit(l []api.Node, root place, see func(at int, p place) api.Errno) api.Errno {
	next := []place{root} // the places of the trees that have yet to begin, the nearest one last
	for at, n := range l {
		p := next[len(next)-1]
		next = next[:len(next)-1]
		if e := see(at, p); e != api.OK {
			return e
		}
		for kid := n.Kids - 1; kid >= 0; kid-- {
			next = append(next, p.below(n.Kind, kid))
		}
	}
	return api.OK
}

// fault returns the error that the node at the index at of the tree l has by itself at the place p; its kids are
// asked by themselves, but for the function of an ExpRec.
func fault(l []api.Node, at int, p place) api.Errno {
	n := l[at]
	if !p.allows(n.Kind) || !rightNum(n) || !rightKids(n) {
		return api.ErrSynForm
	}
	if n.Kind == api.ExpRec && l[at+1].Kind != api.ExpFun {
		return api.ErrSynForm
	}
	return textFault(n)
}

// rightNum reports whether the Num of n is one of its Kind.
func rightNum(n api.Node) bool {
	if n.Kind == api.ExpInt || n.Kind == api.PatInt {
		return word.Wrap(n.Num) == n.Num
	}
	return n.Num == 0
}

// rightKids reports whether n, of a tree, has a number of kids that its Kind may have.
func rightKids(n api.Node) bool {
	switch n.Kind {
	case api.ExpFun, api.ExpRaise:
		return n.Kids == 1
	case api.ExpApp, api.ExpLet, api.ExpRec, api.ExpTry:
		return n.Kids == 2
	case api.ExpIf:
		return n.Kids == 3
	case api.ExpMatch:
		return n.Kids >= 3 && n.Kids%2 == 1
	case api.PatCon:
		return true
	}
	return n.Kids == 0
}

// textFault returns the error of the Text of n.
func textFault(n api.Node) api.Errno {
	right, wrong := n.Text == "", api.ErrSynForm
	switch n.Kind {
	case api.ExpText:
		right = len(n.Text) <= api.MaxText
	case api.ExpVar, api.ExpFun, api.ExpLet, api.ExpRec, api.ExpTry, api.PatVar:
		right, wrong = Name(n.Text), api.ErrSynName
	case api.ExpCon, api.PatCon:
		right, wrong = Con(n.Text), api.ErrSynName
	}
	if right {
		return api.OK
	}
	return wrong
}
