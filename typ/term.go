package typ

import (
	"triglyph/api"
)

// A term is a type whose parts are pointed to: terms have parts in common, so that what would be too great as a list of
// nodes is handled, too. Of terms that were made equal, one stands for all.
type term struct {
	node   api.Node
	kids   []*term
	by     *term // what stands for this term; nil if it stands for itself
	within bool  // whether this variable, or one that it stands for, is a kid of a term
	mark   int   // how far the last search for circles came with this term
}

// root returns the term that stands for x.
func (x *term) root() *term {
	for x.by != nil {
		// The next search takes half the steps, or else they would become many.
		if next := x.by.by; next != nil {
			x.by = next
		}
		x = x.by
	}
	return x
}

// An equation is a pair of terms that are to be made equal.
type equation struct{ a, b *term }

// A solver makes terms equal.
type solver struct {
	open  []equation
	bound []*term // the variables that are kids of terms, and for which a TypCon has come to stand
}

// solve makes the terms of an equation equal, and returns false if somewhere two TypCons differ. Whether a term has
// become a part of itself is left to be asked: if so, one of the variables in bound has.
func (s *solver) solve(first equation) bool {
	s.open = []equation{first}
	for len(s.open) > 0 {
		last := len(s.open) - 1
		next := s.open[last]
		s.open = s.open[:last]
		if !s.unite(next.a.root(), next.b.root()) {
			return false
		}
	}
	return true
}

// unite lets one of two roots stand for the other one, and opens the equations of their kids; it returns false if
// they differ.
func (s *solver) unite(x, y *term) bool {
	if x == y {
		return true
	}
	if yields(x.node, y.node) {
		x, y = y, x
	}
	switch {
	case y.node.Kind == api.TypCon && x.node != y.node:
		return false
	case x.node.Kind == api.TypVar:
		x.within = x.within || y.within
	case y.node.Kind == api.TypVar && y.within:
		// TypCons alone close no circle: from kid to kid, one would have come around it before. And what is no kid is
		// in no circle.
		s.bound = append(s.bound, y)
	}
	for i, kid := range y.kids {
		s.open = append(s.open, equation{kid, x.kids[i]})
	}
	y.by, y.kids = x, nil
	return true
}

// yields reports whether of two roots x is a variable and y is to stand for it.
func yields(x, y api.Node) bool {
	return x.Kind == api.TypVar && (y.Kind == api.TypCon || y.Num < x.Num)
}
