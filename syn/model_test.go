package syn_test

import (
	"regexp"
	"slices"
	"strings"

	"triglyph/api"
)

// A reader reads a tree by the grammar of the chapter, word by word: node by node, and within a node kid by kid.
type reader struct {
	l    nodes
	at   int
	bad  api.Errno // the first error
	sets [][]string
}

// word and capital are the words that begin with a small and with a capital letter, sign are the operators.
var (
	word    = regexp.MustCompile(`\A[a-z][a-zA-Z0-9_']*\z`)
	capital = regexp.MustCompile(`\A[A-Z][a-zA-Z0-9_']*\z`)
	sign    = regexp.MustCompile(`\A[!$%&*+\-/:<=>?@^|]+\z`)
	keys    = strings.Fields("let rec in fun if then else match with end raise try open type of infixl infixr infix -> = | ( ) _ ;;")
)

func isName(s string) bool {
	return (word.MatchString(s) || sign.MatchString(s)) && !slices.Contains(keys, s)
}

func isCon(s string) bool { return capital.MatchString(s) }

// A form is what the chapter says of a Kind: its fields (i: Num is an integer of the language; t, n, c: Text is a
// text, a name, a constructor name), and its kids (e: an expression; p: a pattern; f: an ExpFun; pe and more: these
// once or more; p*: any number).
type form struct{ fields, kids string }

func expForms() map[api.Kind]form {
	return map[api.Kind]form{
		api.ExpInt: {"i", ""}, api.ExpText: {"t", ""}, api.ExpVar: {"n", ""}, api.ExpCon: {"c", ""}, api.ExpFun: {"n", "e"}, api.ExpApp: {"", "ee"}, api.ExpLet: {"n", "ee"}, api.ExpRec: {"n", "fe"}, api.ExpIf: {"", "eee"}, api.ExpMatch: {"", "epe and more"}, api.ExpRaise: {"", "e"}, api.ExpTry: {"n", "ee"},
	}
}

func patForms() map[api.Kind]form {
	return map[api.Kind]form{api.PatAny: {"", ""}, api.PatVar: {"n", ""}, api.PatInt: {"i", ""}, api.PatCon: {"c", "p*"}}
}

// kidsOf returns what the kids of a node are to be, or false if it may not have so many.
func (f form) kidsOf(n int) (string, bool) {
	kids := f.kids
	switch f.kids {
	case "p*":
		kids = strings.Repeat("p", n)
	case "epe and more":
		kids = "e" + strings.Repeat("pe", max(1, n/2))
	}
	return kids, len(kids) == n
}

// fieldsRight tells whether Num and a Text that is no name are right, and whether a name is.
func (f form) fieldsRight(n api.Node) (form, name bool) {
	form, name = true, true
	switch {
	case f.fields != "i" && n.Num != 0:
		form = false
	case f.fields == "i" && (n.Num > 1<<62-1 || n.Num < -1<<62):
		form = false
	}
	switch f.fields {
	case "t":
		form = form && len(n.Text) <= 200
	case "n":
		name = isName(n.Text)
	case "c":
		name = isCon(n.Text)
	default:
		form = form && n.Text == ""
	}
	return form, name
}

// read reads one tree, an expression (e) or a pattern (p), of the names of which it adds to the last of sets.
func (r *reader) read(what byte) {
	n := r.l[r.at]
	forms := expForms()
	if what == 'p' {
		forms = patForms()
	}
	f, known := forms[n.Kind]
	kids, number := f.kidsOf(n.Kids)
	form, name := f.fieldsRight(n)
	if known && number && kids != "" && kids[0] == 'f' {
		form = form && r.l[r.at+1].Kind == api.ExpFun
	}
	switch {
	case !known || !number || !form:
		r.bad = api.ErrSynForm
		return
	case !name:
		r.bad = api.ErrSynName
		return
	}
	if n.Kind == api.PatVar {
		last := len(r.sets) - 1
		r.sets[last] = append(r.sets[last], n.Text)
	}
	r.at++
	for i := 0; i < len(kids) && r.bad == api.OK; i++ {
		switch {
		case kids[i] == 'p' && what == 'e':
			r.sets = append(r.sets, nil)
			r.read('p')
		case kids[i] == 'p':
			r.read('p')
		default:
			r.read('e')
		}
	}
}

// modelCheck returns what Check (what is e) or Pat (p) is to return for a tree that is not too great, and, if this is
// OK, the names of each pattern in it.
func modelCheck(l nodes, what byte) (api.Errno, [][]string) {
	r := reader{l: l}
	if what == 'p' {
		r.sets = append(r.sets, nil)
	}
	r.read(what)
	if r.bad != api.OK {
		return r.bad, nil
	}
	for _, names := range r.sets {
		ordered := slices.Sorted(slices.Values(names))
		if len(slices.Compact(ordered)) < len(names) {
			return api.ErrSynTwice, nil
		}
	}
	return api.OK, r.sets
}

// modelFree appends to free the free names of the expression at an index of an expression, and returns the index
// after it. The names in bound are bound there.
func modelFree(l nodes, at int, bound, free []string) (int, []string) {
	n := l[at]
	if n.Kind == api.ExpVar && !slices.Contains(bound, n.Text) && !slices.Contains(free, n.Text) {
		free = append(free, n.Text)
	}
	with := slices.Concat(bound, []string{n.Text})
	in := map[api.Kind][][]string{api.ExpFun: {with}, api.ExpLet: {bound, with}, api.ExpRec: {with, with}, api.ExpTry: {bound, with}}[n.Kind]
	at++
	for kid := range n.Kids {
		switch {
		case n.Kind == api.ExpMatch && kid%2 == 1:
			at, with = modelPattern(l, at, bound)
		case n.Kind == api.ExpMatch && kid > 0:
			at, free = modelFree(l, at, with, free)
		case in != nil:
			at, free = modelFree(l, at, in[kid], free)
		default:
			at, free = modelFree(l, at, bound, free)
		}
	}
	return at, free
}

// modelPattern returns the index after a pattern, and bound together with its names.
func modelPattern(l nodes, at int, bound []string) (int, []string) {
	n := l[at]
	if n.Kind == api.PatVar {
		bound = slices.Concat(bound, []string{n.Text})
	}
	at++
	for range n.Kids {
		at, bound = modelPattern(l, at, bound)
	}
	return at, bound
}
