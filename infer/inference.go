package infer

import (
	"triglyph/api"
	"triglyph/typ"
)

// An inference is the inference of the type of one expression, as far as it has come. After the first error nothing
// is made equal any more, and the types that are returned mean nothing. The store gives the fresh variables.
type inference struct {
	*typ.Store
	scope
	env    map[string]*term // the types of the environment's names and constructors that the expression has
	l      []api.Node       // the expression
	at     int              // the index of the node that is next
	needed int              // how many fresh variables were needed
	fault  api.Errno        // the first error
	mark   int              // the greatest mark of a term
}

// next returns the next node of the expression.
func (s *inference) next() api.Node {
	n := s.l[s.at]
	s.at++
	return n
}

// fail notes an error, unless there was one before.
func (s *inference) fail(e api.Errno) {
	if s.fault == api.OK {
		s.fault = e
	}
}

// equal makes two types equal.
func (s *inference) equal(a, b *term) {
	if s.fault != api.OK {
		return
	}
	var work solver
	if !work.solve(equation{a, b}) || s.circular(work.bound) {
		s.fail(api.ErrInferType)
	}
}

// circular reports whether one of these terms has become a part of itself.
func (s *inference) circular(terms []*term) bool {
	begun := s.mark + 1
	s.mark += 2
	return circular(terms, begun)
}

// fresh returns a fresh variable.
func (s *inference) fresh() *term {
	s.needed++
	if s.needed > api.MaxVar {
		s.fail(api.ErrInferGreat)
	}
	return &term{node: s.Fresh()[0]}
}

// instance returns the type x with fresh variables instead of the general ones. What has no general ones in it is
// shared.
func (s *inference) instance(x *term) *term {
	s.mark++
	var copied func(x *term) *term
	copied = func(x *term) *term {
		x = x.root()
		if !x.general {
			return x
		}
		if x.mark != s.mark {
			x.mark, x.copy = s.mark, s.copy(x, copied)
		}
		return x.copy
	}
	return copied(x)
}

// copy returns a fresh variable for a variable, and for another term a copy that has copies of its kids.
func (s *inference) copy(x *term, copied func(kid *term) *term) *term {
	if x.node.Kind == api.TypVar {
		return s.fresh()
	}
	kids := make([]*term, len(x.kids))
	for i, kid := range x.kids {
		kids[i] = copied(kid)
	}
	return constructed(x.node.Text, kids...)
}

// resolve returns the nodes of the type x. A type that has too many is an error.
func (s *inference) resolve(x *term) []api.Node {
	if s.fault != api.OK {
		return nil
	}
	s.mark++
	if s.great(x) {
		s.fail(api.ErrInferGreat)
		return nil
	}
	var l []api.Node
	var write func(x *term)
	write = func(x *term) {
		x = x.root()
		l = append(l, x.node)
		for _, kid := range x.kids {
			write(kid)
		}
	}
	write(x)
	return l
}

// great reports whether the type x has more than 4000 nodes. If not, all terms in it have the mark.
func (s *inference) great(x *term) bool {
	var size func(x *term, above int) int
	size = func(x *term, above int) int {
		x = x.root()
		if x.mark == s.mark {
			return x.size
		}
		all := 1
		for _, kid := range x.kids {
			// No sum becomes great, and the search does not go deeper than the limit, however great the type is.
			if above+all > api.MaxNodes {
				return all
			}
			all += size(kid, above+all)
		}
		x.mark, x.size = s.mark, all
		return all
	}
	return size(x, 0) > api.MaxNodes
}

// generalize makes those variables of the type x general that are in the type of no local.
func (s *inference) generalize(x *term) {
	if s.fault != api.OK {
		return
	}
	s.mark++
	if s.great(x) {
		s.fail(api.ErrInferGreat)
		return
	}
	s.mark++
	if _, found := s.search(func(y local) bool { return s.great(y.is) }); found {
		s.fail(api.ErrInferGreat)
		return
	}
	var note func(x *term) bool
	note = func(x *term) bool {
		x = x.root()
		x.general = x.node.Kind == api.TypVar && x.mark != s.mark
		for _, kid := range x.kids {
			x.general = note(kid) || x.general
		}
		return x.general
	}
	note(x)
}
