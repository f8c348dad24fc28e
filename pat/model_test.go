package pat_test

import (
	"regexp"
	"slices"

	"triglyph/api"
)

// A plant is a tree of any nodes.
type plant struct {
	api.Node
	kids []*plant
}

// grow returns the tree of a list; nil if it is none.
func grow(l nodes) *plant {
	x, rest := begin(l)
	if len(rest) > 0 {
		return nil
	}
	return x
}

// begin returns the tree with which a list begins, and what is behind it.
func begin(l nodes) (*plant, nodes) {
	if len(l) == 0 {
		return nil, nil
	}
	x := &plant{Node: l[0]}
	l = l[1:]
	for range x.Kids {
		var kid *plant
		if kid, l = begin(l); kid == nil {
			return nil, nil
		}
		x.kids = append(x.kids, kid)
	}
	if x.Kids < 0 {
		return nil, nil
	}
	return x, l
}

// size tells how many nodes a plant has.
func (x *plant) size() int {
	all := 1
	for _, kid := range x.kids {
		all += kid.size()
	}
	return all
}

// list returns the nodes of a plant.
func (x *plant) list() nodes {
	l := nodes{x.Node}
	for _, kid := range x.kids {
		l = append(l, kid.list()...)
	}
	return l
}

// put returns the type x with its variables replaced.
func (x *plant) put(by []*plant) *plant {
	if x.Kind == api.TypVar {
		return by[x.Num]
	}
	y := &plant{Node: x.Node}
	for _, kid := range x.kids {
		y.kids = append(y.kids, kid.put(by))
	}
	return y
}

// modelArgs is Args for valid declarations and a type.
func modelArgs(l []api.Data, t *plant, con string) ([]*plant, bool) {
	for _, d := range l {
		if t.Kind != api.TypCon || d.Name != t.Text || d.Params != len(t.kids) {
			continue
		}
		for _, c := range d.Cons {
			if c.Name != con {
				continue
			}
			var args []*plant
			for _, arg := range c.Args {
				x := grow(arg).put(t.kids)
				if x.size() > 4000 {
					x = grow(v(0))
				}
				args = append(args, x)
			}
			return args, true
		}
	}
	return nil, false
}

// modelFits tells whether a pattern, or a value, has the type t.
func modelFits(l []api.Data, t, x *plant) bool {
	switch x.Kind {
	case api.PatAny, api.PatVar:
		return true
	case api.PatInt, api.ValInt:
		return t.Kind == api.TypCon && t.Text == "int"
	case api.ValText:
		return t.Kind == api.TypCon && t.Text == "text"
	case api.ValFun:
		return t.Kind == api.TypVar || t.Text == "->" || t.Text == "ref"
	}
	args, ok := modelArgs(l, t, x.Text)
	if !ok || len(args) != len(x.kids) {
		return false
	}
	for i, kid := range x.kids {
		if !modelFits(l, args[i], kid) {
			return false
		}
	}
	return true
}

// capital are the names that constructors may have.
var capital = regexp.MustCompile(`\A[A-Z][a-zA-Z0-9_']*\z`)

// modelValue tells whether a list is a value.
func modelValue(l nodes) bool {
	if grow(l) == nil || len(l) > 4000 {
		return false
	}
	for _, n := range l {
		empty := api.Node{Kind: n.Kind}
		switch n.Kind {
		case api.ValInt:
			empty.Num = min(max(n.Num, -1<<62), 1<<62-1)
		case api.ValText:
			empty.Text = n.Text[:min(len(n.Text), 200)]
		case api.ValCon:
			empty.Text, empty.Kids = n.Text, n.Kids
			if !capital.MatchString(n.Text) {
				return false
			}
		case api.ValFun:
		default:
			return false
		}
		if n != empty {
			return false
		}
	}
	return true
}

// modelMatch tells whether a pattern matches a value, and what it binds.
func modelMatch(p, x *plant) ([]api.Named, bool) {
	switch {
	case p.Kind == api.PatAny:
		return nil, true
	case p.Kind == api.PatVar:
		return []api.Named{{Name: p.Text, Value: x.list()}}, true
	case p.Kind == api.PatInt:
		return nil, x.Kind == api.ValInt && x.Num == p.Num
	case x.Kind != api.ValCon || x.Text != p.Text || len(x.kids) != len(p.kids):
		return nil, false
	}
	var all []api.Named
	for i, kid := range p.kids {
		names, ok := modelMatch(kid, x.kids[i])
		if !ok {
			return nil, false
		}
		all = append(all, names...)
	}
	return all, true
}

// deep tells how deep a plant is.
func (x *plant) deep() int {
	most := 0
	for _, kid := range x.kids {
		most = max(most, kid.deep())
	}
	return most + 1
}

// A model of the values of a type, as far as patterns of a depth can tell them apart: numbers are those that occur, and
// one more; what is deeper, or of a type without patterns, is one value of no Kind. (Every type has values.)
type model struct {
	l    []api.Data
	nums []int64
	most int // how many values there may be
}

// values returns the values of the type t; nil if there are too many.
func (m model) values(t *plant, deep int) []*plant {
	if deep == 0 || t.Kind == api.TypVar {
		return []*plant{{}}
	}
	if t.Text == "int" {
		var all []*plant
		for _, num := range m.nums {
			all = append(all, grow(vi(num)))
		}
		return all
	}
	at := slices.IndexFunc(m.l, func(d api.Data) bool { return d.Name == t.Text && d.Params == len(t.kids) })
	if at < 0 {
		return []*plant{{}}
	}
	var all []*plant
	for _, c := range m.l[at].Cons {
		args, _ := modelArgs(m.l, t, c.Name)
		rows := [][]*plant{nil}
		for _, arg := range args {
			kids := m.values(arg, deep-1)
			if kids == nil || len(rows)*len(kids) > m.most {
				return nil
			}
			var longer [][]*plant
			for _, row := range rows {
				for _, kid := range kids {
					longer = append(longer, append(slices.Clone(row), kid))
				}
			}
			rows = longer
		}
		for _, row := range rows {
			all = append(all, &plant{Node: api.Node{Kind: api.ValCon, Text: c.Name, Kids: len(row)}, kids: row})
		}
	}
	if len(all) > m.most {
		return nil
	}
	return all
}

// modelOf returns the values that these patterns of the type t can tell apart; nil if there are too many.
func modelOf(l []api.Data, t nodes, pats []nodes) []*plant {
	m := model{l: l, nums: []int64{1 << 40}, most: 30000}
	deep := 1
	for _, p := range pats {
		deep = max(deep, grow(p).deep())
		for _, n := range p {
			if n.Kind == api.PatInt && !slices.Contains(m.nums, n.Num) {
				m.nums = append(m.nums, n.Num)
			}
		}
	}
	return m.values(grow(t), deep)
}

// modelFirst tells which pattern is the first one that matches each of these values, or -1.
func modelFirst(pats []nodes, values []*plant) []int {
	var plants []*plant
	for _, p := range pats {
		plants = append(plants, grow(p))
	}
	var all []int
	for _, x := range values {
		all = append(all, slices.IndexFunc(plants, func(p *plant) bool {
			_, ok := modelMatch(p, x)
			return ok
		}))
	}
	return all
}

// modelMissing tells whether a value is matched by no pattern, and which patterns are the first for no value.
func modelMissing(pats []nodes, values []*plant) (bool, []int) {
	first := modelFirst(pats, values)
	var useless []int
	for i := range pats {
		if !slices.Contains(first, i) {
			useless = append(useless, i)
		}
	}
	return slices.Contains(first, -1), useless
}
