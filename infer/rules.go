package infer

import (
	"triglyph/api"
	"triglyph/data"
)

// expression returns the type of the expression that is next, and goes on to the node after it.
func (s *inference) expression() []api.Node {
	if s.fault != api.OK {
		return nil
	}
	n := s.next()
	switch n.Kind {
	case api.ExpInt:
		return base("int")
	case api.ExpText:
		return base("text")
	case api.ExpVar, api.ExpCon:
		return s.instance(s.known(n.Text))
	case api.ExpFun:
		return s.fun(n.Text)
	case api.ExpApp:
		f := s.expression()
		return s.apply(f, s.expression())
	case api.ExpLet:
		return s.let(n.Text)
	case api.ExpRec:
		return s.rec(n.Text)
	case api.ExpIf:
		return s.choice()
	case api.ExpMatch:
		return s.match(n.Kids / 2)
	case api.ExpRaise:
		s.equal(s.expression(), base("int"))
		return s.fresh()
	}
	return s.try(n.Text)
}

// known returns what a name, or a constructor, is here.
func (s *inference) known(name string) scheme {
	if x := s.search(func(x *local) bool { return x.name == name }); x != nil {
		return x.scheme
	}
	return s.env[name]
}

// under returns the type of the expression that is next, where a name has this type.
func (s *inference) under(name string, x scheme) []api.Node {
	leave := s.enter()
	defer leave()
	s.bind(name, x)
	return s.expression()
}

// fun returns the type of the function of this name, whose body is next.
func (s *inference) fun(name string) []api.Node {
	v := s.fresh()
	return s.function(v, s.under(name, scheme{body: v}))
}

// let returns the type of the ExpLet of this name, whose kids are next.
func (s *inference) let(name string) []api.Node {
	general := value(s.l, s.at)
	x := scheme{body: s.expression()}
	if general {
		x = s.generalize(x.body)
	}
	return s.under(name, x)
}

// rec does the same for an ExpRec.
func (s *inference) rec(name string) []api.Node {
	v := s.fresh()
	s.equal(v, s.under(name, scheme{body: v}))
	return s.under(name, s.generalize(v))
}

// choice returns the type of the ExpIf whose kids are next.
func (s *inference) choice() []api.Node {
	s.equal(s.expression(), base("int"))
	t := s.expression()
	s.equal(t, s.expression())
	return t
}

// match returns the type of the ExpMatch with that many arms, whose kids are next.
func (s *inference) match(arms int) []api.Node {
	t := s.expression()
	v := s.fresh()
	for range arms {
		s.equal(s.arm(t), v)
	}
	return v
}

// arm returns the type of the expression of the arm that is next, in a match of a value of the type t.
func (s *inference) arm(t []api.Node) []api.Node {
	leave := s.enter()
	defer leave()
	s.equal(s.pattern(), t)
	return s.expression()
}

// pattern returns the type of the pattern that is next, and binds its names.
func (s *inference) pattern() []api.Node {
	if s.fault != api.OK {
		return nil
	}
	n := s.next()
	switch n.Kind {
	case api.PatInt:
		return base("int")
	case api.PatCon:
		return s.constructed(n.Text)
	}
	v := s.fresh()
	if n.Kind == api.PatVar {
		s.bind(n.Text, scheme{body: v})
	}
	return v
}

// constructed returns the type of the PatCon of this constructor, whose kids are next.
func (s *inference) constructed(con string) []api.Node {
	args, to := data.Parts(s.instance(s.env[con]))
	for _, arg := range args {
		s.equal(s.pattern(), arg)
	}
	return to
}

// try returns the type of the ExpTry of this name, whose kids are next.
func (s *inference) try(name string) []api.Node {
	t := s.expression()
	s.equal(t, s.under(name, scheme{body: base("int")}))
	return t
}
