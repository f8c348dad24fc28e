package typ

import (
	"maps"
	"slices"

	"triglyph/api"
)

// Store maintains a substitution.
type Store struct {
	next int64           // the Num of the next fresh variable
	vars map[int64]*term // the variables that were met, by Num; what stands for one is what the substitution replaces it by
	mark int             // the greatest mark of a term
}

// NewStore returns a store that knows nothing, whose fresh variables begin with the Num next.
func NewStore(next int) *Store { return &Store{next: int64(next), vars: map[int64]*term{}} }

// Fresh returns the next fresh variable.
func (s *Store) Fresh() []api.Node {
	v := variable(s.next)
	s.next++
	return v
}

// Unify returns, in ascending order of Var, what each variable is replaced by when the types a and b are made equal;
// or the error of Check, ErrTypClash if they cannot be made equal, or ErrTypGreat if one of the results is too great.
func Unify(a, b []api.Node) ([]api.Bind, api.Errno) {
	s := NewStore(0)
	if e := s.Unify(a, b); e != api.OK {
		return nil, e
	}
	var l []api.Bind
	for _, num := range slices.Sorted(maps.Keys(s.vars)) {
		if v := s.vars[num]; v.root() == v {
			continue
		}
		t, e := s.Resolve(variable(num))
		if e != api.OK {
			return nil, e
		}
		l = append(l, api.Bind{Var: int(num), Type: t})
	}
	return l, api.OK
}

// Unify extends the substitution so that it makes the types a and b equal; or it returns the error of Check, or
// ErrTypClash if they cannot be made equal: the store is then of no use any more.
func (s *Store) Unify(a, b []api.Node) api.Errno {
	if e := Check(a); e != api.OK {
		return e
	}
	if e := Check(b); e != api.OK {
		return e
	}
	var work solver
	if !work.solve(equation{s.term(a), s.term(b)}) || s.circular(work.bound) {
		return api.ErrTypClash
	}
	return api.OK
}

// Resolve returns the type t with the substitution applied to it; or the error of Check, or ErrTypGreat if the result
// would have too many nodes.
func (s *Store) Resolve(t []api.Node) ([]api.Node, api.Errno) {
	if e := Check(t); e != api.OK {
		return nil, e
	}
	var l []api.Node
	// This ends, and goes no deeper than the limit, even in a circle: each term has a node of its own.
	var write func(x *term)
	write = func(x *term) {
		if len(l) > api.MaxNodes {
			return
		}
		x = x.root()
		l = append(l, x.node)
		for _, kid := range x.kids {
			write(kid)
		}
	}
	for _, n := range t {
		if v, met := s.vars[n.Num]; met && n.Kind == api.TypVar {
			write(v)
		} else {
			l = append(l, n)
		}
	}
	if len(l) > api.MaxNodes {
		return nil, api.ErrTypGreat
	}
	return l, api.OK
}

// term returns the term of the type t, whose variables are those of the store.
func (s *Store) term(t []api.Node) *term {
	var read func() *term
	read = func() *term {
		n := t[0]
		t = t[1:]
		if n.Kind == api.TypVar {
			return s.variable(n)
		}
		x := &term{node: n}
		for range n.Kids {
			kid := read()
			kid.root().within = true
			x.kids = append(x.kids, kid)
		}
		return x
	}
	return read()
}

// variable returns the term of the variable v, the same for each Num.
func (s *Store) variable(v api.Node) *term {
	x, met := s.vars[v.Num]
	if !met {
		x = &term{node: v}
		s.vars[v.Num] = x
	}
	return x
}

// circular reports whether one of these terms has become a part of itself.
func (s *Store) circular(terms []*term) bool {
	begun, ended := s.mark+1, s.mark+2
	s.mark = ended
	// The terms from one of these to the one at hand have begun; between them are those that have yet to begin, and
	// those that have ended since.
	var path []*term
	for _, x := range terms {
		path = append(path, x.root())
	}
	for len(path) > 0 {
		x := path[len(path)-1]
		if x.mark >= begun {
			x.mark = ended
			path = path[:len(path)-1]
			continue
		}
		x.mark = begun
		for _, kid := range x.kids {
			kid = kid.root()
			if kid.mark == begun {
				return true
			}
			path = append(path, kid)
		}
	}
	return false
}
