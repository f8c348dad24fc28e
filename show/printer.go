package show

import (
	"slices"
	"strings"

	"triglyph/api"
	"triglyph/fix"
	"triglyph/layout"
	"triglyph/lex"
	"triglyph/tree"
	"triglyph/word"
)

// A printer makes the documents of an expression's parts; a part is told by its index.
type printer struct {
	l     []api.Node
	fixes []api.Fix
}

// A form is what decides whether an expression has to be parenthesized at its place.
type form int

const (
	atom form = iota
	row
	app
	open
)

// form returns the form of the expression at the index at.
func (p printer) form(at int) form {
	switch p.l[at].Kind {
	case api.ExpApp:
		if _, ok := p.operator(at); ok {
			return row
		}
		return app
	case api.ExpFun, api.ExpLet, api.ExpRec, api.ExpIf, api.ExpRaise, api.ExpTry:
		return open
	}
	return atom
}

// operator returns the fixity of the row at the index at; false if no row is there.
func (p printer) operator(at int) (api.Fix, bool) {
	if p.l[at].Kind != api.ExpApp || p.l[at+1].Kind != api.ExpApp || p.l[at+2].Kind != api.ExpVar {
		return api.Fix{}, false
	}
	return fix.Find(p.fixes, p.l[at+2].Text)
}

// doc returns the document of the expression at the index at.
func (p printer) doc(at int) []api.Node {
	switch p.form(at) {
	case row:
		return p.row(at)
	case app:
		return p.app(at)
	case open:
		return p.open(at)
	}
	return p.atom(at)
}

// part returns the document of the expression at the index at, in parentheses if enclosed tells so.
func (p printer) part(at int, enclosed func(at int) bool) []api.Node {
	doc := p.doc(at)
	if enclosed(at) {
		return layout.Cat(layout.Text("("), doc, layout.Text(")"))
	}
	return doc
}

// row returns the document of a row.
func (p printer) row(at int) []api.Node {
	operator, _ := p.operator(at)
	loose := func(side int) func(at int) bool {
		return func(at int) bool {
			inner, isRow := p.operator(at)
			if !isRow {
				return p.form(at) == open
			}
			// Operators of one Level are read as a chain to the side on which all of them bind.
			chained := inner.Side == side && operator.Side == side
			return inner.Level < operator.Level || inner.Level == operator.Level && !chained
		}
	}
	left := at + 3
	right := tree.End(p.l, left)
	return group(p.part(left, loose(-1)), nest(layout.Line(), layout.Text(operator.Op+" "), p.part(right, loose(1))))
}

// app returns the document of an app: what is applied, which is no app, and all that it is applied to.
func (p printer) app(at int) []api.Node {
	var args []int // from the last to the first
	for p.form(at) == app {
		args = append(args, tree.End(p.l, at+1))
		at++
	}
	compound := func(at int) bool { return p.form(at) != atom }
	var docs [][]api.Node
	for _, arg := range slices.Backward(args) {
		docs = append(docs, layout.Line(), p.part(arg, compound))
	}
	return group(p.part(at, compound), nest(docs...))
}

// open returns the document of an expression that is open.
func (p printer) open(at int) []api.Node {
	var kids [][]api.Node
	for _, kid := range tree.Kids(p.l, at) {
		kids = append(kids, p.doc(kid))
	}
	name := nameText(p.l[at].Text)
	switch p.l[at].Kind {
	case api.ExpFun:
		return group(layout.Text("fun "+name+" ->"), under(kids[0]))
	case api.ExpLet:
		return binding("let "+name+" =", kids[0], kids[1])
	case api.ExpRec:
		return binding("let rec "+name+" =", kids[0], kids[1])
	case api.ExpIf:
		return group(layout.Text("if"), under(kids[0]), layout.Line(), layout.Text("then"), under(kids[1]), layout.Line(), layout.Text("else"), under(kids[2]))
	case api.ExpRaise:
		return group(layout.Text("raise"), under(kids[0]))
	}
	return group(layout.Text("try"), under(kids[0]), layout.Line(), layout.Text("with "+name+" ->"), under(kids[1]))
}

// binding returns the document of a let that begins with head.
func binding(head string, bound, in []api.Node) []api.Node {
	return group(layout.Text(head), under(bound), layout.Line(), layout.Text("in"), layout.Line(), in)
}

// atom returns the document of an atom.
func (p printer) atom(at int) []api.Node {
	n := p.l[at]
	switch n.Kind {
	case api.ExpInt:
		return layout.Text(word.Show(n.Num))
	case api.ExpText:
		return layout.Text(lex.Quote(n.Text))
	case api.ExpVar:
		return layout.Text(nameText(n.Text))
	case api.ExpCon:
		return layout.Text(n.Text)
	}
	return p.match(at)
}

// match returns the document of an ExpMatch.
func (p printer) match(at int) []api.Node {
	kids := tree.Kids(p.l, at)
	docs := [][]api.Node{layout.Text("match"), under(p.doc(kids[0])), layout.Line(), layout.Text("with")}
	for i := 1; i < len(kids); i += 2 {
		head, result := p.pattern(kids[i])+" ->", under(p.doc(kids[i+1]))
		if i == 1 {
			docs = append(docs, nest(layout.Line(), layout.Text(head), result))
		} else {
			docs = append(docs, layout.Line(), layout.Text("| "+head), result)
		}
	}
	return group(append(docs, layout.Line(), layout.Text("end"))...)
}

// pattern returns the text of the pattern at the index at.
func (p printer) pattern(at int) string {
	var text strings.Builder
	writePattern(&text, p.l, at)
	return text.String()
}

// group returns the group of two or more documents, one after the other.
func group(docs ...[]api.Node) []api.Node { return layout.Group(layout.Cat(docs...)) }

// nest returns two or more documents, one after the other, indented.
func nest(docs ...[]api.Node) []api.Node { return layout.Nest(2, layout.Cat(docs...)) }

// under returns doc in a line of its own, indented.
func under(doc []api.Node) []api.Node { return nest(layout.Line(), doc) }
