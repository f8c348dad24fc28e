package parse_test

import (
	"cmp"
	"slices"
	"strings"

	"triglyph/api"
	"triglyph/fix"
	"triglyph/syn"
	"triglyph/tree"
)

// A nodes is a tree, or what is to be none.
type nodes = []api.Node

// fixes are fixities of each Side; % has none.
func fixes() []api.Fix {
	return []api.Fix{{Op: "+", Level: 6, Side: -1}, {Op: "*", Level: 7, Side: -1}, {Op: "::", Level: 5, Side: 1}, {Op: "&", Level: 6, Side: 1}, {Op: "<", Level: 4}}
}

// grammar is that of the chapter, with symbols of their own for what is repeated (ops, atoms, arms and patoms). Of
// each symbol those alternatives stand first that need no expr and no pat but one that they are; cheap says how many.
func grammar() map[string]struct {
	cheap int
	rules []string
} {
	return map[string]struct {
		cheap int
		rules []string
	}{
		"expr":   {1, []string{"row", "fun bind -> expr", "let bind = expr in expr", "let rec bind = expr in expr", "if expr then expr else expr", "raise expr", "try expr with bind -> expr"}},
		"row":    {1, []string{"app ops"}},
		"ops":    {1, []string{"", "TokOp app ops"}},
		"app":    {1, []string{"atom atoms"}},
		"atoms":  {1, []string{"", "atom atoms"}},
		"atom":   {5, []string{"TokInt", "TokText", "TokCon", "TokName", "( TokOp )", "( expr )", "match expr with pat -> expr arms end"}},
		"arms":   {1, []string{"", "| pat -> expr arms"}},
		"bind":   {2, []string{"TokName", "( TokOp )"}},
		"pat":    {1, []string{"patom", "TokCon patoms"}},
		"patoms": {1, []string{"", "patom patoms"}},
		"patom":  {4, []string{"_", "TokInt", "TokCon", "bind", "( pat )"}},
	}
}

// kindOf returns the kind of the tokens that a symbol without rules stands for.
func kindOf(symbol string) api.TokenKind {
	switch symbol {
	case "TokInt":
		return api.TokInt
	case "TokText":
		return api.TokText
	case "TokCon":
		return api.TokCon
	case "TokName":
		return api.TokName
	case "TokOp":
		return api.TokOp
	}
	return api.TokKey
}

// passes tells whether t is what the symbol, which has no rules, stands for.
func passes(symbol string, t api.Token) bool {
	kind := kindOf(symbol)
	return t.Kind == kind && (kind != api.TokKey || t.Text == symbol)
}

// A rule is one of a symbol: as a text, and the symbols of which it consists.
type rule struct {
	text    string
	symbols []string
}

// A part is one way to read the tokens from one index to another one: as a symbol of the grammar, by a rule of it.
type part struct {
	symbol, rule string
	from, to     int
	kids         []part
}

// A model reads tokens in all ways that the grammar has, whatever the fixities say.
type model struct {
	l        []api.Token
	rules    map[string][]rule
	furthest int    // the greatest index at which a token was asked for
	deepest  int    // the greatest index at which an expr or a pat was too deep; -1 if none was
	rows     []part // all rows, complete or not
}

func newModel() *model {
	m := &model{rules: map[string][]rule{}}
	for symbol, g := range grammar() {
		for _, text := range g.rules {
			m.rules[symbol] = append(m.rules[symbol], rule{text, strings.Fields(text)})
		}
	}
	return m
}

// read returns all ways to read tokens from an index on as the symbol, inside deep exprs and pats.
func (m *model) read(symbol string, at, deep int) []part {
	rules, known := m.rules[symbol]
	if !known {
		m.furthest = max(m.furthest, at)
		if at == len(m.l) || !passes(symbol, m.l[at]) {
			return nil
		}
		return []part{{symbol: symbol, from: at, to: at + 1}}
	}
	if symbol == "expr" || symbol == "pat" {
		if deep == 100 {
			m.deepest = max(m.deepest, at)
			return nil
		}
		deep++
	}
	var all []part
	for _, r := range rules {
		for _, kids := range m.sequences(r.symbols, at, deep) {
			p := part{symbol: symbol, rule: r.text, from: at, to: at, kids: kids}
			if len(kids) > 0 {
				p.to = kids[len(kids)-1].to
			}
			// A TokCon is a pat in two ways, which come to the same; nothing else is read in two ways.
			if !slices.ContainsFunc(all, func(q part) bool { return q.to == p.to }) {
				all = append(all, p)
			}
		}
	}
	if symbol == "row" {
		m.rows = append(m.rows, all...)
	}
	return all
}

// sequences returns all ways to read tokens as these symbols, one after the other.
func (m *model) sequences(symbols []string, at, deep int) [][]part {
	if len(symbols) == 0 {
		return [][]part{nil}
	}
	var all [][]part
	for _, first := range m.read(symbols[0], at, deep) {
		for _, others := range m.sequences(symbols[1:], first.to, deep) {
			all = append(all, append([]part{first}, others...))
		}
	}
	return all
}

// A told is what Tokens is to return. It is open if tokens could follow those that there are: they are the beginning
// of an expression, or of what could be one but for the rows that are not complete.
type told struct {
	l    nodes
	at   int
	e    api.Errno
	open bool
}

// tokens returns what Tokens is to return.
func (m *model) tokens(l []api.Token, end int) told {
	m.l, m.furthest, m.deepest, m.rows = l, 0, -1, nil
	all := m.read("expr", 0, 0)
	position := func(i int) int {
		if i == len(l) {
			return end
		}
		return l[i].At
	}
	open := m.furthest == len(l) && m.deepest < len(l)
	// The row that ends first is complete first, and of those that end at one place the innermost one.
	slices.SortStableFunc(m.rows, func(a, b part) int { return cmp.Or(a.to-b.to, b.from-a.from) })
	for _, row := range m.rows {
		if at, e := m.rowFault(row); e != api.OK {
			return told{at: at, e: e, open: open && row.to == len(l)}
		}
	}
	for _, p := range all {
		if p.to == len(l) {
			exp := m.exp(p)
			if syn.Check(exp) != api.OK {
				return told{e: api.ErrParseTree, open: true}
			}
			return told{l: exp, open: true}
		}
	}
	if m.deepest >= m.furthest {
		return told{at: position(m.deepest), e: api.ErrParseDeep}
	}
	return told{at: position(m.furthest), e: api.ErrParseToken, open: open}
}

// rowFault returns the error of a row, if it is a complete one, and its position.
func (m *model) rowFault(row part) (int, api.Errno) {
	if row.to < len(m.l) {
		next := m.l[row.to]
		for _, symbol := range []string{"TokInt", "TokText", "TokCon", "TokName", "(", "match", "TokOp"} {
			if passes(symbol, next) {
				return 0, api.OK
			}
		}
	}
	_, ops := m.sides(row)
	for _, op := range ops {
		if _, found := fix.Find(fixes(), op.Text); !found {
			return op.At, api.ErrParseFix
		}
	}
	if _, e := fix.Climb(fixes(), texts(ops)); e != api.OK {
		return m.l[row.from].At, api.ErrParseClash
	}
	return 0, api.OK
}

func texts(l []api.Token) []string {
	var all []string
	for _, t := range l {
		all = append(all, t.Text)
	}
	return all
}

// flat returns the kids of p, those of a kid of the symbol more, which stands for a repetition, instead of it.
func (p part) flat(more string) []part {
	var all []part
	for _, kid := range p.kids {
		if kid.symbol == more {
			all = append(all, kid.flat(more)...)
		} else {
			all = append(all, kid)
		}
	}
	return all
}

// sides returns the apps and the operators of a row.
func (m *model) sides(row part) (apps []part, ops []api.Token) {
	for _, p := range row.flat("ops") {
		if p.symbol == "app" {
			apps = append(apps, p)
		} else {
			ops = append(ops, m.l[p.from])
		}
	}
	return apps, ops
}

// within returns the trees of the exprs and the pats of p, and the last name that is bound in it.
func (m *model) within(p part, more string) (kids []nodes, name string) {
	for _, kid := range p.flat(more) {
		switch kid.symbol {
		case "expr":
			kids = append(kids, m.exp(kid))
		case "pat", "patom":
			kids = append(kids, m.pat(kid))
		case "bind":
			name = m.name(kid)
		}
	}
	return kids, name
}

// name returns the name of a TokName, or of an operator in parentheses.
func (m *model) name(p part) string { return m.l[p.from+len(p.kids)/2].Text }

// exp returns the tree of an expr.
func (m *model) exp(p part) nodes {
	kind, closed := map[string]api.Kind{"fun": api.ExpFun, "let": api.ExpLet, "if": api.ExpIf, "raise": api.ExpRaise, "try": api.ExpTry}[p.kids[0].symbol]
	if !closed {
		return m.row(p.kids[0])
	}
	if p.kids[1].symbol == "rec" {
		kind = api.ExpRec
	}
	kids, name := m.within(p, "")
	return tree.Make(api.Node{Kind: kind, Text: name}, kids...)
}

// row returns the tree of a row.
func (m *model) row(p part) nodes {
	apps, ops := m.sides(p)
	structure, _ := fix.Climb(fixes(), texts(ops))
	var build func() nodes
	build = func() nodes {
		k := structure[0]
		structure = structure[1:]
		if k < 0 {
			return m.app(apps[-1-k])
		}
		left := build()
		right := build()
		op := tree.Make(api.Node{Kind: api.ExpVar, Text: ops[k].Text})
		return applied(applied(op, left), right)
	}
	return build()
}

// applied returns a applied to b.
func applied(a, b nodes) nodes { return tree.Make(api.Node{Kind: api.ExpApp}, a, b) }

// app returns the tree of an app.
func (m *model) app(p part) nodes {
	atoms := p.flat("atoms")
	l := m.atom(atoms[0])
	for _, atom := range atoms[1:] {
		l = applied(l, m.atom(atom))
	}
	return l
}

// atom returns the tree of an atom.
func (m *model) atom(p part) nodes {
	t := m.l[p.from]
	switch p.rule {
	case "TokInt":
		return nodes{{Kind: api.ExpInt, Num: t.Num}}
	case "TokText":
		return nodes{{Kind: api.ExpText, Text: t.Text}}
	case "TokCon":
		return nodes{{Kind: api.ExpCon, Text: t.Text}}
	case "TokName", "( TokOp )":
		return nodes{{Kind: api.ExpVar, Text: m.name(p)}}
	case "( expr )":
		return m.exp(p.kids[1])
	}
	kids, _ := m.within(p, "arms")
	return tree.Make(api.Node{Kind: api.ExpMatch}, kids...)
}

// pat returns the tree of a pat, or of a patom.
func (m *model) pat(p part) nodes {
	t := m.l[p.from]
	switch p.rule {
	case "patom":
		return m.pat(p.kids[0])
	case "TokCon patoms":
		kids, _ := m.within(p, "patoms")
		return tree.Make(api.Node{Kind: api.PatCon, Text: t.Text}, kids...)
	case "TokCon":
		return nodes{{Kind: api.PatCon, Text: t.Text}}
	case "TokInt":
		return nodes{{Kind: api.PatInt, Num: t.Num}}
	case "bind":
		return nodes{{Kind: api.PatVar, Text: m.name(p.kids[0])}}
	case "( pat )":
		return m.pat(p.kids[1])
	}
	return nodes{{Kind: api.PatAny}}
}
