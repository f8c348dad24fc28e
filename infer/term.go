package infer

import (
	"triglyph/api"
)

// arrow is the Text of the TypCon of functions.
const arrow = "->"

// A term is a type whose parts are pointed to, and which may have any number of nodes: only those types must have at
// most 4000 that are resolved. (The store takes no greater ones, either: it would need them in pieces, and a variable
// for each, which the document does not count.) Of terms that were made equal, one stands for all.
type term struct {
	node    api.Node
	kids    []*term
	by      *term // what stands for this term; nil if it stands for itself
	within  bool  // whether this variable, or one that it stands for, is a kid of a term
	general bool  // whether this is a variable that stands for any type in the type of a name, or has one in it
	mark    int   // which search was the last one that came here, or how far it came
	size    int   // how many nodes the type has, if that was what the search was for
	copy    *term // the copy of this term, if that was
}

// root returns the term that stands for x.
func (x *term) root() *term {
	for x.by != nil {
		// The next search takes half the steps, or else they would become many.
		if next := x.by.by; next != nil {
			x.by = next
		}
		x = x.by
	}
	return x
}

// constructed returns the term of a TypCon with this Text and these kids.
func constructed(text string, kids ...*term) *term {
	x := &term{node: api.Node{Kind: api.TypCon, Text: text, Kids: len(kids)}, kids: kids}
	for _, kid := range kids {
		kid = kid.root()
		kid.within = true
		x.general = x.general || kid.general
	}
	return x
}

// generic returns the term of the type t, all of whose variables are general.
func generic(t []api.Node) *term {
	vars := map[int64]*term{}
	var read func() *term
	read = func() *term {
		n := t[0]
		t = t[1:]
		if n.Kind == api.TypCon {
			kids := make([]*term, n.Kids)
			for i := range kids {
				kids[i] = read()
			}
			return constructed(n.Text, kids...)
		}
		if vars[n.Num] == nil {
			vars[n.Num] = &term{node: n, general: true}
		}
		return vars[n.Num]
	}
	return read()
}
