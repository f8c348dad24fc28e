package parse

import (
	"slices"
	"strings"

	"triglyph/api"
	"triglyph/fix"
	"triglyph/tree"
)

// expr reads an expr.
func (p *parser) expr() []api.Node {
	return p.nested(func() []api.Node {
		switch {
		case p.sees(key("fun")):
			return p.form(api.ExpFun, "fun bind -> expr")
		case p.sees(key("let"), key("rec")):
			return p.form(api.ExpRec, "let rec bind = expr in expr")
		case p.sees(key("let")):
			return p.form(api.ExpLet, "let bind = expr in expr")
		case p.sees(key("if")):
			return p.form(api.ExpIf, "if expr then expr else expr")
		case p.sees(key("raise")):
			return p.form(api.ExpRaise, "raise expr")
		case p.sees(key("try")):
			return p.form(api.ExpTry, "try expr with bind -> expr")
		}
		return p.row()
	})
}

// form reads what the rule of the grammar says, and returns the tree that it becomes, with a root of
// that Kind.
func (p *parser) form(root api.Kind, rule string) []api.Node {
	name, kids := p.parts(rule)
	return tree.Make(api.Node{Kind: root, Text: name}, kids...)
}

// parts reads what the rule says, which has no choices and no repetitions, and returns the last name that is bound
// in it, and the trees of its exprs and pats.
func (p *parser) parts(rule string) (name string, kids [][]api.Node) {
	for _, part := range strings.Fields(rule) {
		switch part {
		case "bind":
			name = p.bind()
		case "expr":
			kids = append(kids, p.expr())
		case "pat":
			kids = append(kids, p.pat())
		default:
			p.take(key(part))
		}
	}
	return name, kids
}

// row reads app { TokOp app }.
func (p *parser) row() []api.Node {
	first := p.here()
	operands := [][]api.Node{p.app()}
	var ops []api.Token
	for p.sees(kind(api.TokOp)) {
		ops = append(ops, p.take(kind(api.TokOp)))
		operands = append(operands, p.app())
	}
	if len(ops) == 0 {
		return operands[0]
	}
	// The structure is in preorder, and so are trees: each number in it stands for the nodes with which its part begins.
	var l []api.Node
	for _, k := range p.structure(first, ops) {
		if k < 0 {
			l = append(l, operands[-1-k]...)
			continue
		}
		app := api.Node{Kind: api.ExpApp, Kids: 2}
		l = append(l, app, app, api.Node{Kind: api.ExpVar, Text: ops[k].Text})
	}
	return l
}

// structure returns the structure of a row with these operators, which begins at the position first.
func (p *parser) structure(first int, ops []api.Token) []int {
	var names []string
	// Climb checks all fixities that it is given, for each row again: it is given only those that it needs.
	var fixes []api.Fix
	for _, op := range ops {
		f, found := fix.Find(p.fixes, op.Text)
		if !found {
			p.fail(op.At, api.ErrParseFix)
			return nil
		}
		names = append(names, op.Text)
		if _, again := fix.Find(fixes, op.Text); !again {
			fixes = append(fixes, f)
		}
	}
	structure, e := fix.Climb(fixes, names)
	if e != api.OK {
		p.fail(first, api.ErrParseClash)
	}
	return structure
}

// app reads atom { atom }.
func (p *parser) app() []api.Node {
	var atoms [][]api.Node
	begins := either(leaf(), key("("), key("match"))
next:
	atoms = append(atoms, p.atom())
	if p.sees(begins) {
		goto next
	}
	if len(atoms) == 1 {
		return atoms[0]
	}
	// Each ExpApp is the first kid of the one before it, so that in preorder all of them stand before the atoms.
	apps := slices.Repeat([]api.Node{{Kind: api.ExpApp, Kids: 2}}, len(atoms)-1)
	return slices.Concat(apps, slices.Concat(atoms...))
}

// leaf is the test for the tokens that are atoms by themselves.
func leaf() test { return kind(api.TokInt, api.TokText, api.TokCon, api.TokName) }

// atom reads an atom.
func (p *parser) atom() []api.Node {
	switch {
	case p.sees(key("match")):
		return p.match()
	case p.sees(key("("), kind(api.TokOp)):
		return tree.Make(api.Node{Kind: api.ExpVar, Text: p.bind()})
	case p.sees(key("(")):
		_, kids := p.parts("( expr )")
		return kids[0]
	}
	switch t := p.take(leaf()); t.Kind {
	case api.TokInt:
		return tree.Make(api.Node{Kind: api.ExpInt, Num: t.Num})
	case api.TokText:
		return tree.Make(api.Node{Kind: api.ExpText, Text: t.Text})
	case api.TokCon:
		return tree.Make(api.Node{Kind: api.ExpCon, Text: t.Text})
	default:
		return tree.Make(api.Node{Kind: api.ExpVar, Text: t.Text})
	}
}

// match reads match expr with pat -> expr { | pat -> expr } end.
func (p *parser) match() []api.Node {
	_, kids := p.parts("match expr with pat -> expr")
	for p.sees(key("|")) {
		_, arm := p.parts("| pat -> expr")
		kids = append(kids, arm...)
	}
	p.take(key("end"))
	return tree.Make(api.Node{Kind: api.ExpMatch}, kids...)
}

// bind reads a bind, and returns the name.
func (p *parser) bind() string {
	if !p.sees(key("(")) {
		return p.take(kind(api.TokName)).Text
	}
	p.take(key("("))
	name := p.take(kind(api.TokOp)).Text
	p.take(key(")"))
	return name
}

// pat reads a pat.
func (p *parser) pat() []api.Node {
	return p.nested(func() []api.Node {
		if !p.sees(kind(api.TokCon)) {
			return p.patom()
		}
		n := api.Node{Kind: api.PatCon, Text: p.take(kind(api.TokCon)).Text}
		var kids [][]api.Node
		begins := either(kind(api.TokInt, api.TokCon, api.TokName), key("_"), key("("))
		for p.sees(begins) {
			kids = append(kids, p.patom())
		}
		return tree.Make(n, kids...)
	})
}

// patom reads a patom.
func (p *parser) patom() []api.Node {
	switch {
	case p.sees(key("_")):
		p.take(key("_"))
		return tree.Make(api.Node{Kind: api.PatAny})
	case p.sees(kind(api.TokInt)):
		return tree.Make(api.Node{Kind: api.PatInt, Num: p.take(kind(api.TokInt)).Num})
	case p.sees(kind(api.TokCon)):
		return tree.Make(api.Node{Kind: api.PatCon, Text: p.take(kind(api.TokCon)).Text})
	case p.sees(key("(")) && !p.sees(key("("), kind(api.TokOp)):
		_, kids := p.parts("( pat )")
		return kids[0]
	}
	return tree.Make(api.Node{Kind: api.PatVar, Text: p.bind()})
}
