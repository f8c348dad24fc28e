package infer

import (
	"triglyph/api"
)

// expression returns the type of the expression that is next, and goes on to the node after it.
func (s *inference) expression() *term {
	if s.fault != api.OK {
		return s.fresh()
	}
	n := s.next()
	switch n.Kind {
	case api.ExpInt:
		return constructed("int")
	case api.ExpText:
		return constructed("text")
	case api.ExpVar, api.ExpCon:
		return s.instance(s.known(n.Text))
	case api.ExpFun:
		return s.fun(n.Text)
	case api.ExpApp:
		f := s.expression()
		return s.apply(f, s.expression())
	case api.ExpLet:
		return s.let(n.Text)
	case api.ExpRec:
		return s.rec(n.Text)
	case api.ExpIf:
		return s.choice()
	case api.ExpMatch:
		return s.match(n.Kids / 2)
	case api.ExpRaise:
		s.equal(s.expression(), constructed("int"))
		return s.fresh()
	}
	return s.try(n.Text)
}

// known returns the type of a name, or of a constructor, here.
func (s *inference) known(name string) *term {
	if x, found := s.search(func(x local) bool { return x.name == name }); found {
		return x.is
	}
	return s.env[name]
}

// under returns the type of the expression that is next, where a name has this type.
func (s *inference) under(name string, x *term) *term {
	leave := s.enter()
	defer leave()
	s.bind(name, x)
	return s.expression()
}

// fun returns the type of the function of this name, whose body is next.
func (s *inference) fun(name string) *term {
	v := s.fresh()
	return constructed(arrow, v, s.under(name, v))
}

// apply returns the type of what a function of the type f returns for an argument of the type arg.
func (s *inference) apply(f, arg *term) *term {
	v := s.fresh()
	s.equal(f, constructed(arrow, arg, v))
	return v
}

// let returns the type of the ExpLet of this name, whose kids are next.
func (s *inference) let(name string) *term {
	general := value(s.l, s.at)
	x := s.expression()
	if general {
		s.generalize(x)
	}
	return s.under(name, x)
}

// rec does the same for an ExpRec.
func (s *inference) rec(name string) *term {
	v := s.fresh()
	s.equal(v, s.under(name, v))
	s.generalize(v)
	return s.under(name, v)
}

// choice returns the type of the ExpIf whose kids are next.
func (s *inference) choice() *term {
	s.equal(s.expression(), constructed("int"))
	t := s.expression()
	s.equal(t, s.expression())
	return t
}

// match returns the type of the ExpMatch with that many arms, whose kids are next.
func (s *inference) match(arms int) *term {
	t := s.expression()
	v := s.fresh()
	for range arms {
		s.equal(s.arm(t), v)
	}
	return v
}

// arm returns the type of the expression of the arm that is next, in a match of a value of the type t.
func (s *inference) arm(t *term) *term {
	leave := s.enter()
	defer leave()
	s.equal(s.pattern(), t)
	return s.expression()
}

// pattern returns the type of the pattern that is next, and binds its names.
func (s *inference) pattern() *term {
	if s.fault != api.OK {
		return s.fresh()
	}
	n := s.next()
	switch n.Kind {
	case api.PatInt:
		return constructed("int")
	case api.PatCon:
		return s.parts(n)
	}
	v := s.fresh()
	if n.Kind == api.PatVar {
		s.bind(n.Text, v)
	}
	return v
}

// parts returns the type of the PatCon n, whose kids are next.
func (s *inference) parts(n api.Node) *term {
	t := s.instance(s.env[n.Text])
	for range n.Kids {
		arg, rest := t.kids[0], t.kids[1]
		s.equal(s.pattern(), arg)
		t = rest.root()
	}
	return t
}

// try returns the type of the ExpTry of this name, whose kids are next.
func (s *inference) try(name string) *term {
	t := s.expression()
	s.equal(t, s.under(name, constructed("int")))
	return t
}
