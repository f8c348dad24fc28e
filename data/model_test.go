package data_test

import (
	"regexp"

	"triglyph/api"
	"triglyph/tree"
	"triglyph/typ"
)

// name are the names that types and constructors may have.
var name = regexp.MustCompile(`\A[A-Z][a-zA-Z0-9_']*\z`)

// formed tells whether a declaration is well-formed.
func formed(d api.Data) bool {
	if !name.MatchString(d.Name) || d.Params < 0 || d.Params > 8 || len(d.Cons) < 1 || len(d.Cons) > 60 {
		return false
	}
	for _, c := range d.Cons {
		if !name.MatchString(c.Name) || len(c.Args) > 8 {
			return false
		}
		for _, arg := range c.Args {
			if typ.Check(arg) != api.OK {
				return false
			}
			for _, num := range typ.Vars(arg) {
				if num >= d.Params {
					return false
				}
			}
		}
	}
	return true
}

// told tells whether a type is made of declared ones only.
func told(l []api.Data, t nodes) bool {
	if t[0].Kind == api.TypVar {
		return true
	}
	known := t[0].Text == "->" || t[0].Text == "int" || t[0].Text == "text" || t[0].Text == "ref"
	for _, d := range l {
		known = known || d.Name == t[0].Text && d.Params == t[0].Kids
	}
	for _, at := range tree.Kids(t, 0) {
		kid, _ := tree.Sub(t, at)
		known = known && told(l, kid)
	}
	return known
}

// flat returns all constructors, one after the other.
func flat(l []api.Data) []api.Ctor {
	var all []api.Ctor
	for _, d := range l {
		all = append(all, d.Cons...)
	}
	return all
}

// modelCheck is Check, in the words of the chapter.
func modelCheck(l []api.Data) api.Errno {
	if len(l) > 60 {
		return 100
	}
	for _, d := range l {
		if !formed(d) {
			return 100
		}
	}
	var names []string
	for _, d := range l {
		names = append(names, d.Name)
	}
	cons := flat(l)
	for i := range cons {
		for j := range i {
			if cons[i].Name == cons[j].Name {
				return 101
			}
		}
	}
	for i := range names {
		for j := range i {
			if names[i] == names[j] {
				return 101
			}
		}
	}
	for _, c := range cons {
		for _, arg := range c.Args {
			if !told(l, arg) {
				return 102
			}
		}
	}
	return 0
}

// modelArrow is Arrow: the first, and the Arrow of the others.
func modelArrow(args []nodes, to nodes) nodes {
	if len(args) == 0 {
		return to
	}
	return con("->", args[0], modelArrow(args[1:], to))
}

// modelParts is Parts: the first kid, and the Parts of the second.
func modelParts(t nodes) ([]nodes, nodes) {
	if typ.Check(t) != api.OK {
		return nil, nil
	}
	if t[0].Text != "->" {
		return nil, t
	}
	kids := tree.Kids(t, 0)
	first, _ := tree.Sub(t, kids[0])
	second, _ := tree.Sub(t, kids[1])
	args, to := modelParts(second)
	return append([]nodes{first}, args...), to
}

// modelSigs is Sigs, for declarations that may stand together.
func modelSigs(l []api.Data) []api.Sig {
	var all []api.Sig
	for _, d := range l {
		for _, c := range d.Cons {
			all = append(all, api.Sig{Name: c.Name, Type: modelArrow(c.Args, con(d.Name, vars(d.Params)...))})
		}
	}
	return all
}
