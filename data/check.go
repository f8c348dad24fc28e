package data

import (
	"slices"

	"triglyph/api"
	"triglyph/lex"
	"triglyph/typ"
)

// most is how many declarations there may be, and how many constructors in each.
const most = 60

// Check returns OK if the declarations l may stand together, and otherwise ErrDataForm, ErrDataTwice or ErrDataNone.
func Check(l []api.Data) api.Errno {
	wrong := func(d api.Data) bool { return !right(d) }
	switch {
	case len(l) > most || slices.ContainsFunc(l, wrong):
		return api.ErrDataForm
	case repeats(l):
		return api.ErrDataTwice
	case lacks(l):
		return api.ErrDataNone
	}
	return api.OK
}

// right reports whether d is well-formed.
func right(d api.Data) bool {
	wrong := func(c api.Ctor) bool { return !rightCtor(c, d.Params) }
	return rightName(d.Name) && 0 <= d.Params && d.Params <= api.MaxArgs &&
		1 <= len(d.Cons) && len(d.Cons) <= most && !slices.ContainsFunc(d.Cons, wrong)
}

// rightName reports whether a type or a constructor may have that Name.
func rightName(name string) bool { return lex.Right(api.Token{Kind: api.TokCon, Text: name}) }

// rightCtor reports whether c is well-formed in a declaration with that many params.
func rightCtor(c api.Ctor, params int) bool {
	none := func(arg []api.Node) bool { return typ.Check(arg) != api.OK }
	if !rightName(c.Name) || len(c.Args) > api.MaxArgs || slices.ContainsFunc(c.Args, none) {
		return false
	}
	return !has(c, func(n api.Node) bool { return n.Kind == api.TypVar && n.Num >= int64(params) })
}

// has reports whether found holds for a node of the Args of c.
func has(c api.Ctor, found func(n api.Node) bool) bool {
	return slices.ContainsFunc(c.Args, func(arg []api.Node) bool { return slices.ContainsFunc(arg, found) })
}

// repeats reports whether two of the well-formed declarations l, or two constructors in them, have the same Name.
func repeats(l []api.Data) bool {
	types, cons, all := map[string]struct{}{}, map[string]struct{}{}, 0
	search(l, func(d api.Data, c api.Ctor) bool {
		types[d.Name], cons[c.Name] = struct{}{}, struct{}{}
		all++
		return false
	})
	return len(types) < len(l) || len(cons) < all
}

// lacks reports whether the Args of the well-formed declarations l contain a TypCon that is not declared like that.
func lacks(l []api.Data) bool {
	// What is built in has the right number of kids in every type, and no declaration can have its Name.
	params := map[string]int{arrow: 2, "int": 0, "text": 0, "ref": 1}
	for _, d := range l {
		params[d.Name] = d.Params
	}
	foreign := func(n api.Node) bool {
		kids, known := params[n.Text]
		return n.Kind == api.TypCon && (!known || kids != n.Kids)
	}
	_, _, found := search(l, func(_ api.Data, c api.Ctor) bool { return has(c, foreign) })
	return found
}
