package show_test

import (
	"strconv"
	"strings"

	"triglyph/api"
	"triglyph/layout"
)

// A nodes is a tree, or what is to be none.
type nodes = []api.Node

// An exp is an expression or a pattern, with its kids in a list of their own.
type exp struct {
	api.Node
	kids []exp
}

// read returns the first tree of l, and what stands behind it.
func read(l nodes) (exp, nodes) {
	x := exp{Node: l[0]}
	l = l[1:]
	for range x.Kids {
		var kid exp
		kid, l = read(l)
		x.kids = append(x.kids, kid)
	}
	return x, l
}

// A filler reads a template: a document as the chapter writes it, with words for what is to be filled in.
type filler struct {
	rest  string
	docs  map[string]nodes  // what the words outside of quotes stand for
	words *strings.Replacer // what the words in quotes stand for
}

// fill returns the document of a template.
func fill(template string, docs map[string]nodes, words ...string) nodes {
	f := filler{template, docs, strings.NewReplacer(words...)}
	return f.item()
}

func (f *filler) item() nodes {
	if rest, ok := strings.CutPrefix(f.rest, "group("); ok {
		return layout.Group(f.listed(rest))
	}
	if rest, ok := strings.CutPrefix(f.rest, "nest("); ok {
		return layout.Nest(2, f.listed(rest))
	}
	if rest, ok := strings.CutPrefix(f.rest, `"`); ok {
		var text string
		text, f.rest, _ = strings.Cut(rest, `"`)
		return layout.Text(f.words.Replace(text))
	}
	end := strings.IndexAny(f.rest, ",)")
	word := f.rest[:end]
	f.rest = f.rest[end:]
	if word == "line" {
		return layout.Line()
	}
	return f.docs[word]
}

// listed reads a list up to its parenthesis: one DocCat of the documents, or the document itself if there is only one.
func (f *filler) listed(rest string) nodes {
	f.rest = rest
	all := []nodes{f.item()}
	for strings.HasPrefix(f.rest, ", ") {
		f.rest = f.rest[2:]
		all = append(all, f.item())
	}
	f.rest = f.rest[1:]
	if len(all) == 1 {
		return all[0]
	}
	return layout.Cat(all...)
}

// templates are the documents of the kinds of expressions that are open.
func templates() map[api.Kind]string {
	return map[api.Kind]string{
		api.ExpFun:   `group("fun NAME ->", nest(line, a))`,
		api.ExpLet:   `group("let NAME =", nest(line, a), line, "in", line, b)`,
		api.ExpRec:   `group("let rec NAME =", nest(line, a), line, "in", line, b)`,
		api.ExpIf:    `group("if", nest(line, a), line, "then", nest(line, b), line, "else", nest(line, c))`,
		api.ExpRaise: `group("raise", nest(line, a))`,
		api.ExpTry:   `group("try", nest(line, a), line, "with NAME ->", nest(line, b))`,
	}
}

// A model makes documents as the chapter says it, word by word.
type model []api.Fix

// level returns the fixity of the operator of a row, and the name of the form of x.
func (m model) level(x exp) (api.Fix, string) {
	if x.Kind == api.ExpApp {
		if x.kids[0].Kind == api.ExpApp && x.kids[0].kids[0].Kind == api.ExpVar {
			for _, f := range m {
				if f.Op == x.kids[0].kids[0].Text {
					return f, "row"
				}
			}
		}
		return api.Fix{}, "app"
	}
	if templates()[x.Kind] != "" {
		return api.Fix{}, "open"
	}
	return api.Fix{}, "atom"
}

func parenthesized(doc nodes) nodes { return layout.Cat(layout.Text("("), doc, layout.Text(")")) }

func (m model) doc(x exp) nodes {
	f, form := m.level(x)
	switch {
	case form == "row":
		left, right := m.operand(x.kids[0].kids[1], f, -1), m.operand(x.kids[1], f, 1)
		return fill(`group(left, nest(line, "OP ", right))`, map[string]nodes{"left": left, "right": right}, "OP", f.Op)
	case form == "app":
		return m.app(x)
	case form == "open":
		docs := map[string]nodes{}
		for i, kid := range x.kids {
			docs["abc"[i:i+1]] = m.doc(kid)
		}
		return fill(templates()[x.Kind], docs, "NAME", modelName(x.Text))
	case x.Kind == api.ExpInt:
		return layout.Text(modelInt(x.Num))
	case x.Kind == api.ExpText:
		return layout.Text(modelQuote(x.Text))
	case x.Kind == api.ExpVar:
		return layout.Text(modelName(x.Text))
	case x.Kind == api.ExpCon:
		return layout.Text(x.Text)
	}
	return m.match(x)
}

// operand returns the document of a part of a row with the fixity f.
func (m model) operand(x exp, f api.Fix, side int) nodes {
	g, form := m.level(x)
	doc := m.doc(x)
	if form == "open" || form == "row" && (g.Level < f.Level || g.Level == f.Level && (g.Side != side || f.Side != side)) {
		return parenthesized(doc)
	}
	return doc
}

func (m model) app(x exp) nodes {
	docs := map[string]nodes{}
	list := ""
	form := "app"
	for form == "app" {
		second := m.doc(x.kids[1])
		if _, of := m.level(x.kids[1]); of != "atom" {
			second = parenthesized(second)
		}
		number := strconv.Itoa(len(docs))
		docs[number] = second
		list = ", line, " + number + list
		x = x.kids[0]
		_, form = m.level(x)
	}
	docs["h"] = m.doc(x)
	if form == "row" || form == "open" {
		docs["h"] = parenthesized(docs["h"])
	}
	return fill("group(h, nest("+list[2:]+"))", docs)
}

func (m model) match(x exp) nodes {
	docs := map[string]nodes{"a": m.doc(x.kids[0])}
	template := `group("match", nest(line, a), line, "with", `
	var words []string
	for i := 1; i < len(x.kids); i += 2 {
		number := strconv.Itoa(i)
		docs[number] = m.doc(x.kids[i+1])
		words = append(words, "PATTERN"+number+" ", modelPattern(x.kids[i])+" ")
		arm := `line, "| PATTERN1 ->", nest(line, 1), `
		if i == 1 {
			arm = `nest(line, "PATTERN1 ->", nest(line, 1)), `
		}
		template += strings.ReplaceAll(arm, "1", number)
	}
	return fill(template+`line, "end")`, docs, words...)
}

func modelName(s string) string {
	if s != "" && strings.IndexByte("!$%&*+-/:<=>?@^|", s[0]) >= 0 {
		return "(" + s + ")"
	}
	return s
}

func modelInt(n int64) string { return strings.Replace(strconv.FormatInt(n, 10), "-", "~", 1) }

func modelQuote(s string) string {
	q := `"`
	for _, b := range []byte(s) {
		switch {
		case b == '"' || b == '\\':
			q += `\` + string(rune(b))
		case b == '\n':
			q += `\n`
		case 32 <= b && b <= 126:
			q += string(rune(b))
		default:
			q += `\x` + strconv.FormatInt(int64(b)+256, 16)[1:]
		}
	}
	return q + `"`
}

func modelPattern(p exp) string {
	switch p.Kind {
	case api.PatAny:
		return "_"
	case api.PatVar:
		return modelName(p.Text)
	case api.PatInt:
		return modelInt(p.Num)
	}
	s := p.Text
	for _, kid := range p.kids {
		if kid.Kind == api.PatCon && len(kid.kids) > 0 {
			s += " (" + modelPattern(kid) + ")"
		} else {
			s += " " + modelPattern(kid)
		}
	}
	return s
}
