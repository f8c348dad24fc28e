package pat

import (
	"slices"

	"triglyph/api"
	"triglyph/syn"
	"triglyph/tree"
	"triglyph/word"
)

// value reports whether v is a value.
func value(v []api.Node) bool {
	wrong := func(n api.Node) bool { return !right(n) }
	return len(v) <= api.MaxNodes && tree.Whole(v) && !slices.ContainsFunc(v, wrong)
}

// right reports whether n, of a tree, is a node of a value.
func right(n api.Node) bool {
	switch n.Kind {
	case api.ValInt:
		return word.Wrap(n.Num) == n.Num && n.Text == "" && n.Kids == 0
	case api.ValText:
		return len(n.Text) <= api.MaxText && n.Num == 0 && n.Kids == 0
	case api.ValCon:
		return syn.Con(n.Text) && n.Num == 0
	}
	return n == api.Node{Kind: api.ValFun}
}

// match reports whether p is a pattern that matches the value v. It calls bind for the names of p, in order, until it
// comes to a part that does not match.
func match(p, v []api.Node, bind func(name string, part []api.Node)) bool {
	if syn.Pat(p) != api.OK {
		return false
	}
	for _, n := range p {
		end := 1
		switch n.Kind {
		case api.PatVar, api.PatAny:
			end = tree.End(v, 0)
			if n.Kind == api.PatVar {
				bind(n.Text, v[:end])
			}
		case api.PatInt:
			if v[0].Kind != api.ValInt || v[0].Num != n.Num {
				return false
			}
		case api.PatCon:
			// The kids of both are next.
			if v[0].Kind != api.ValCon || v[0].Text != n.Text || v[0].Kids != n.Kids {
				return false
			}
		}
		v = v[end:]
	}
	return true
}
