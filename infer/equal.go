package infer

import (
	"triglyph/api"
)

// An equation is a pair of terms that are to be made equal.
type equation struct{ a, b *term }

// A solver makes terms equal.
type solver struct {
	open  []equation
	bound []*term // the variables that are kids of terms, and for which a TypCon has come to stand
}

// solve makes the terms of an equation equal, and returns false if somewhere two TypCons differ. Whether a term has
// become a part of itself is left to be asked: if so, one of the variables in bound has.
func (s *solver) solve(first equation) bool {
	s.open = []equation{first}
	for len(s.open) > 0 {
		last := len(s.open) - 1
		next := s.open[last]
		s.open = s.open[:last]
		if !s.unite(next.a.root(), next.b.root()) {
			return false
		}
	}
	return true
}

// unite lets one of two roots stand for the other one, and opens the equations of their kids; it returns false if
// they differ.
func (s *solver) unite(x, y *term) bool {
	if x == y {
		return true
	}
	if x.node.Kind == api.TypVar {
		x, y = y, x
	}
	switch {
	case y.node.Kind == api.TypCon && x.node != y.node:
		return false
	case x.node.Kind == api.TypVar:
		x.within = x.within || y.within
	case y.node.Kind == api.TypVar && y.within:
		// TypCons alone close no circle: from kid to kid, one would have come around it before. And what is no kid is
		// in no circle.
		s.bound = append(s.bound, y)
	}
	for i, kid := range y.kids {
		s.open = append(s.open, equation{kid, x.kids[i]})
	}
	y.by, y.kids = x, nil
	return true
}

// circular reports whether one of these terms has become a part of itself. The marks of what has begun and of what has
// ended are begun and the next number; no term has a greater one.
func circular(terms []*term, begun int) bool {
	ended := begun + 1
	// The terms from one of these to the one at hand have begun; between them are those that have yet to begin, and
	// those that have ended since.
	var path []*term
	for _, x := range terms {
		path = append(path, x.root())
	}
	for len(path) > 0 {
		x := path[len(path)-1]
		if x.mark >= begun {
			x.mark = ended
			path = path[:len(path)-1]
			continue
		}
		x.mark = begun
		for _, kid := range x.kids {
			kid = kid.root()
			if kid.mark == begun {
				return true
			}
			path = append(path, kid)
		}
	}
	return false
}
