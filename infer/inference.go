package infer

import (
	"slices"

	"triglyph/api"
	"triglyph/data"
	"triglyph/tree"
	"triglyph/typ"
)

// arrow is the Text of the TypCon of functions.
const arrow = "->"

// An inference is the inference of the type of one expression, as far as it has come. After the first error nothing
// is unified any more, and the types that are returned mean nothing.
type inference struct {
	*typ.Store
	scope
	env    map[string]scheme // what the environment tells of the names and constructors of the expression
	l      []api.Node        // the expression
	at     int               // the index of the node that is next
	needed int               // how many fresh variables were needed
	fault  api.Errno         // the first error
}

// next returns the next node of the expression.
func (s *inference) next() api.Node {
	n := s.l[s.at]
	s.at++
	return n
}

// fail notes an error, unless there was one before.
func (s *inference) fail(e api.Errno) {
	if s.fault == api.OK {
		s.fault = e
	}
}

// equal makes two types equal.
func (s *inference) equal(a, b []api.Node) {
	if s.fault == api.OK && s.Unify(a, b) != api.OK {
		s.fail(api.ErrInferType)
	}
}

// resolve returns the type t with all that is known of its variables.
func (s *inference) resolve(t []api.Node) []api.Node {
	if s.fault != api.OK {
		return nil
	}
	t, e := s.Resolve(t)
	if e != api.OK {
		s.fail(api.ErrInferGreat)
	}
	return t
}

// need counts a fresh variable.
func (s *inference) need() {
	s.needed++
	if s.needed > api.MaxVar {
		s.fail(api.ErrInferGreat)
	}
}

// variable returns a variable of the store that has not been used; it is not counted.
func (s *inference) variable() []api.Node {
	v := s.Fresh()
	// The store has one variable more than may be counted. So this happens only if part has taken many.
	if v[0].Num > api.MaxVar {
		s.fail(api.ErrInferGreat)
	}
	return v
}

// fresh returns a fresh variable.
func (s *inference) fresh() []api.Node {
	s.need()
	return s.variable()
}

// instance returns the type of a scheme, with fresh variables instead of the general ones.
func (s *inference) instance(x scheme) []api.Node {
	var binds []api.Bind
	for _, v := range x.general {
		binds = append(binds, api.Bind{Var: v, Type: s.fresh()})
	}
	return typ.Apply(binds, x.body)
}

// generalize returns the scheme of the type t here: its variables are general, unless one is free in the type of a
// local.
func (s *inference) generalize(t []api.Node) scheme {
	t = s.resolve(t)
	if s.fault != api.OK {
		return scheme{}
	}
	s.update()
	general := slices.DeleteFunc(typ.Vars(t), func(v int) bool { return s.free[v] > 0 })
	return scheme{body: t, general: general}
}

// update brings all locals up to what is known of their variables now. A type that has become too great is an error.
func (s *inference) update() {
	var replaced []api.Bind
	for v := range s.free {
		itself := single(v)
		if t := s.resolve(itself); !slices.Equal(t, itself) {
			replaced = append(replaced, api.Bind{Var: v, Type: t})
		}
	}
	if s.fault != api.OK {
		return
	}
	great := func(x *local) bool {
		for _, b := range replaced {
			s.replace(x, b.Var, b.Type)
		}
		return x.size > api.MaxNodes
	}
	if s.search(great) != nil {
		s.fail(api.ErrInferGreat)
	}
}

// function returns the type of the functions from one type to another one, of which one is a variable.
func (s *inference) function(from, to []api.Node) []api.Node {
	return data.Arrow([][]api.Node{s.part(from)}, s.part(to))
}

// part returns t, or a variable that is equal to t if a `->` of a variable and t would have too many nodes to be
// unified. Types that need not be resolved may be as great as they like, so this is no error; and the document does not
// count this variable.
func (s *inference) part(t []api.Node) []api.Node {
	if len(t)+2 <= api.MaxNodes {
		return t
	}
	v := s.variable()
	s.equal(v, t)
	return v
}

// apply returns the type of what a function of the type f returns for an argument of the type arg.
func (s *inference) apply(f, arg []api.Node) []api.Node {
	s.need()
	if s.fault != api.OK {
		return nil
	}
	// Where the parts of f are at hand, the fresh variable for the result would become the second one at once. It is
	// counted, but the store's variable is left to part.
	if f[0].Text == arrow {
		end := tree.End(f, 1)
		s.equal(f[1:end], arg)
		return f[end:]
	}
	to := s.variable()
	s.equal(f, s.function(arg, to))
	return to
}

// single returns the type that is the variable with that Num.
func single(num int) []api.Node { return []api.Node{{Kind: api.TypVar, Num: int64(num)}} }

// base returns the type int or text.
func base(text string) []api.Node { return tree.Make(api.Node{Kind: api.TypCon, Text: text}) }
