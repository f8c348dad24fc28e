package infer_test

import (
	"regexp"
	"slices"

	"triglyph/api"
	"triglyph/syn"
	"triglyph/tree"
	"triglyph/typ"
)

// A model is a type as a tree of pointers, of which parts may be in common.
type model struct {
	con  string // empty for a variable
	kids []*model
	by   *model // what stands for this one
}

// root returns what stands for m.
func (m *model) root() *model {
	for m.by != nil {
		m = m.by
	}
	return m
}

// visit calls see for m and all parts of it, each once.
func (m *model) visit(seen map[*model]bool, see func(m *model)) {
	m = m.root()
	if seen[m] {
		return
	}
	seen[m] = true
	see(m)
	for _, kid := range m.kids {
		kid.visit(seen, see)
	}
}

// vars returns the variables of m.
func (m *model) vars() map[*model]bool {
	vars := map[*model]bool{}
	m.visit(map[*model]bool{}, func(m *model) {
		if m.con == "" {
			vars[m] = true
		}
	})
	return vars
}

// great tells whether m has more than 4000 nodes.
func (m *model) great() bool {
	sizes := map[*model]int{}
	var size func(m *model) int
	size = func(m *model) int {
		m = m.root()
		if sizes[m] == 0 {
			all := 1
			for _, kid := range m.kids {
				all += size(kid)
			}
			sizes[m] = min(all, 4001)
		}
		return sizes[m]
	}
	return size(m) > 4000
}

// equate makes two types equal, and returns false if they cannot be. Pairs that it has met before are in done.
func equate(a, b *model, done map[[2]*model]bool) bool {
	a, b = a.root(), b.root()
	switch {
	case a == b || done[[2]*model{a, b}]:
		return true
	case a.con == "":
		if b.vars()[a] {
			return false
		}
		a.by = b
		return true
	case b.con == "":
		return equate(b, a, done)
	case a.con != b.con || len(a.kids) != len(b.kids):
		return false
	}
	done[[2]*model{a, b}] = true
	for i := range a.kids {
		if !equate(a.kids[i], b.kids[i], done) {
			return false
		}
	}
	return true
}

// copied returns m with what is told instead of some variables.
func (m *model) copied(told map[*model]*model) *model {
	m = m.root()
	if told[m] == nil {
		told[m] = m
		if m.con != "" {
			other := &model{con: m.con}
			for _, kid := range m.kids {
				other.kids = append(other.kids, kid.copied(told))
			}
			told[m] = other
		}
	}
	return told[m]
}

// nodes returns the type of a model that is not too great, with the variables numbered from 0 on.
func (m *model) nodes() nodes {
	nums := map[*model]int64{}
	var write func(m *model) nodes
	write = func(m *model) nodes {
		m = m.root()
		if m.con == "" {
			if _, ok := nums[m]; !ok {
				nums[m] = int64(len(nums))
			}
			return v(nums[m])
		}
		all := nodes{{Kind: api.TypCon, Text: m.con, Kids: len(m.kids)}}
		for _, kid := range m.kids {
			all = append(all, write(kid)...)
		}
		return all
	}
	return write(m)
}

// arrow returns the model of a function's type.
func arrow(a, b *model) *model { return &model{con: "->", kids: []*model{a, b}} }

// of returns the model of a type, and what is behind it in the list.
func of(t nodes, vars map[int64]*model) (*model, nodes) {
	n := t[0]
	t = t[1:]
	if n.Kind == api.TypVar {
		if vars[n.Num] == nil {
			vars[n.Num] = &model{}
		}
		return vars[n.Num], t
	}
	m := &model{con: n.Text}
	for range n.Kids {
		var kid *model
		kid, t = of(t, vars)
		m.kids = append(m.kids, kid)
	}
	return m, t
}

// A named is a name with its type, and those variables of it that are generalized.
type named struct {
	name    string
	t       *model
	general map[*model]bool
}

// A judge goes through an expression by the rules of the chapter. Its errors are panics.
type judge struct {
	env, bound []named
	left       int // how many fresh variables there are
	rest       nodes
}

func (j *judge) next() api.Node {
	n := j.rest[0]
	j.rest = j.rest[1:]
	return n
}

func (j *judge) fresh() *model {
	if j.left == 0 {
		panic(api.ErrInferGreat)
	}
	j.left--
	return &model{}
}

func (j *judge) same(a, b *model) {
	if !equate(a, b, map[[2]*model]bool{}) {
		panic(api.ErrInferType)
	}
}

// instance returns the instantiated type of a name.
func (j *judge) instance(name string) *model {
	for _, x := range slices.Backward(slices.Concat(j.env, j.bound)) {
		if x.name == name {
			told := map[*model]*model{}
			for m := range x.general {
				told[m] = j.fresh()
			}
			return x.t.copied(told)
		}
	}
	panic("the name is not there")
}

// under returns the type of the next expression with some more names.
func (j *judge) under(l ...named) *model {
	outer := j.bound
	j.bound = slices.Concat(outer, l)
	t := j.exp()
	j.bound = outer
	return t
}

// generalized returns the name with the variables of t generalized that may be.
func (j *judge) generalized(name string, t *model) named {
	general := t.vars()
	for _, x := range append([]named{{t: t}}, j.bound...) {
		if x.t.great() {
			panic(api.ErrInferGreat)
		}
	}
	for _, x := range j.bound {
		for m := range x.t.vars() {
			if !x.general[m] {
				delete(general, m)
			}
		}
	}
	return named{name, t, general}
}

// exp returns the type of the next expression.
func (j *judge) exp() *model {
	all := j.rest
	n := j.next()
	number := &model{con: "int"}
	switch n.Kind {
	case api.ExpInt:
		return number
	case api.ExpText:
		return &model{con: "text"}
	case api.ExpVar, api.ExpCon:
		return j.instance(n.Text)
	case api.ExpFun:
		x := j.fresh()
		return arrow(x, j.under(named{name: n.Text, t: x}))
	case api.ExpApp:
		f, a := j.exp(), j.exp()
		x := j.fresh()
		j.same(f, arrow(a, x))
		return x
	case api.ExpLet:
		first, _ := tree.Sub(all, 1)
		x := named{name: n.Text, t: j.exp()}
		if modelValue(first) {
			x = j.generalized(n.Text, x.t)
		}
		return j.under(x)
	case api.ExpRec:
		x := j.fresh()
		j.same(x, j.under(named{name: n.Text, t: x}))
		return j.under(j.generalized(n.Text, x))
	case api.ExpIf:
		j.same(j.exp(), number)
		t := j.exp()
		j.same(t, j.exp())
		return t
	case api.ExpRaise:
		j.same(j.exp(), number)
		return j.fresh()
	case api.ExpTry:
		t := j.exp()
		j.same(t, j.under(named{name: n.Text, t: number}))
		return t
	}
	t := j.exp()
	x := j.fresh()
	for range n.Kids / 2 {
		p, names := j.pat()
		j.same(p, t)
		j.same(j.under(names...), x)
	}
	return x
}

// pat returns the type of the next pattern, and its names.
func (j *judge) pat() (*model, []named) {
	n := j.next()
	switch n.Kind {
	case api.PatAny:
		return j.fresh(), nil
	case api.PatVar:
		x := j.fresh()
		return x, []named{{name: n.Text, t: x}}
	case api.PatInt:
		return &model{con: "int"}, nil
	}
	t := j.instance(n.Text)
	var names []named
	for range n.Kids {
		p, more := j.pat()
		j.same(p, t.kids[0])
		t = t.kids[1]
		names = append(names, more...)
	}
	return t, names
}

// modelValue tells whether an expression is a value.
func modelValue(l nodes) bool {
	if l[0].Kind != api.ExpApp {
		return slices.Contains([]api.Kind{api.ExpInt, api.ExpText, api.ExpVar, api.ExpCon, api.ExpFun}, l[0].Kind)
	}
	kids := tree.Kids(l, 0)
	f, _ := tree.Sub(l, kids[0])
	a, _ := tree.Sub(l, kids[1])
	return modelValue(f) && modelValue(a) && (f[0].Kind == api.ExpCon || f[0].Kind == api.ExpApp)
}

// capital are the names that constructors may have.
var capital = regexp.MustCompile(`\A[A-Z][a-zA-Z0-9_']*\z`)

// modelCheck tells whether an environment is valid.
func modelCheck(env []api.Sig) bool {
	for i, x := range env {
		if !syn.Name(x.Name) && !capital.MatchString(x.Name) || typ.Check(x.Type) != api.OK {
			return false
		}
		for _, y := range env[:i] {
			if x.Name == y.Name {
				return false
			}
		}
		to := x.Type
		for to[0].Text == "->" {
			to = to[tree.End(to, 1):]
		}
		if capital.MatchString(x.Name) && (to[0].Kind == api.TypVar || slices.Contains([]string{"->", "int", "text", "ref"}, to[0].Text)) {
			return false
		}
	}
	return true
}

// lacks tells whether names or constructors of an expression are not in the environment, or have another number of
// arguments.
func lacks(env []api.Sig, l nodes) bool {
	types := map[string]nodes{}
	for _, x := range env {
		types[x.Name] = x.Type
	}
	for _, name := range syn.Free(l) {
		if types[name] == nil {
			return true
		}
	}
	for _, n := range l {
		t := types[n.Text]
		switch {
		case n.Kind != api.ExpCon && n.Kind != api.PatCon:
			continue
		case t == nil:
			return true
		}
		args := 0
		for ; t[0].Text == "->"; t = t[tree.End(t, 1):] {
			args++
		}
		if n.Kind == api.PatCon && args != n.Kids {
			return true
		}
	}
	return false
}

// modelInfer is Infer, in the words of the chapter.
func modelInfer(env []api.Sig, l nodes) (nodes, api.Errno) {
	t, _, e := modelNeeds(env, l)
	return t, e
}

// modelNeeds returns the same, and how many fresh variables were needed.
func modelNeeds(env []api.Sig, l nodes) (t nodes, needed int, e api.Errno) {
	switch {
	case syn.Check(l) != api.OK:
		return nil, 0, syn.Check(l)
	case !modelCheck(env):
		return nil, 0, api.ErrInferEnv
	case lacks(env, l):
		return nil, 0, api.ErrInferName
	}
	j := judge{left: 1 << 20, rest: l}
	defer func() {
		needed = 1<<20 - j.left
		if fault := recover(); fault != nil {
			t, e = nil, fault.(api.Errno)
		}
	}()
	for _, x := range env {
		m, _ := of(x.Type, map[int64]*model{})
		j.env = append(j.env, named{x.Name, m, m.vars()})
	}
	m := j.exp()
	if m.great() {
		panic(api.ErrInferGreat)
	}
	return m.nodes(), 0, api.OK
}
