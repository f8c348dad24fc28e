package typ_test

import (
	"regexp"
	"slices"
	"strconv"
	"strings"

	"triglyph/api"
)

// name are the Texts of the types that are declared.
var name = regexp.MustCompile(`\A[A-Z][a-zA-Z0-9_']*\z`)

// modelEnd returns the index after the type at the index at, or -1 if none is there.
func modelEnd(l nodes, at int) int {
	if at < 0 || at >= len(l) {
		return -1
	}
	n := l[at]
	most, known := map[string]int{"->": 2, "int": 0, "text": 0, "ref": 1}[n.Text]
	switch {
	case n.Kind == api.TypVar && n.Text == "" && n.Kids == 0 && n.Num >= 0 && n.Num <= 1<<20:
		return at + 1
	case n.Kind != api.TypCon || n.Num != 0 || n.Kids < 0:
		return -1
	case known && n.Kids != most || !known && (!name.MatchString(n.Text) || n.Kids > 8):
		return -1
	}
	at++
	for range n.Kids {
		if at = modelEnd(l, at); at < 0 {
			return -1
		}
	}
	return at
}

// modelCheck tells whether l is a type.
func modelCheck(l nodes) bool { return len(l) <= 4000 && modelEnd(l, 0) == len(l) && len(l) > 0 }

// A model is a type as a tree of pointers.
type model struct {
	con  string // empty for a variable
	num  int
	kids []*model
}

// modelOf returns the model of the type at the beginning of l, and what is behind it.
func modelOf(l nodes) (*model, nodes) {
	m := &model{con: l[0].Text, num: int(l[0].Num)}
	rest := l[1:]
	for range l[0].Kids {
		var kid *model
		kid, rest = modelOf(rest)
		m.kids = append(m.kids, kid)
	}
	return m, rest
}

// nodes returns the type of a model.
func (m *model) nodes() nodes {
	if m.con == "" {
		return v(int64(m.num))
	}
	var kids []nodes
	for _, kid := range m.kids {
		kids = append(kids, kid.nodes())
	}
	return con(m.con, kids...)
}

// text returns the text of a model, by the templates of the chapter.
func (m *model) text() string {
	enclosed := func(kid *model, yes bool) string {
		if yes {
			return "(" + kid.text() + ")"
		}
		return kid.text()
	}
	switch m.con {
	case "":
		return "'" + strconv.Itoa(m.num)
	case "->":
		return enclosed(m.kids[0], m.kids[0].con == "->") + " -> " + m.kids[1].text()
	}
	s := m.con
	for _, kid := range m.kids {
		s += " " + enclosed(kid, len(kid.kids) > 0)
	}
	return s
}

// with returns the model with the variable num replaced.
func (m *model) with(num int, by *model) *model {
	if m.con == "" && m.num == num {
		return by
	}
	other := *m
	other.kids = nil
	for _, kid := range m.kids {
		other.kids = append(other.kids, kid.with(num, by))
	}
	return &other
}

// has tells whether the variable num is in the model.
func (m *model) has(num int) bool {
	return m.con == "" && m.num == num || slices.ContainsFunc(m.kids, func(kid *model) bool { return kid.has(num) })
}

// A solution is what the variables are; each variable that is replaced is replaced everywhere.
type solution map[int]*model

// apply returns the model with all variables replaced that the solution has.
func (s solution) apply(m *model) *model {
	for num, by := range s {
		m = m.with(num, by)
	}
	return m
}

// add makes two models equal, one step after the other, and returns false if they cannot be.
func (s solution) add(a, b *model) bool {
	a, b = s.apply(a), s.apply(b)
	if a.con == "" && b.con == "" {
		if a.num == b.num {
			return true
		}
		return s.set(max(a.num, b.num), &model{num: min(a.num, b.num)})
	}
	switch {
	case a.con == "":
		return !b.has(a.num) && s.set(a.num, b)
	case b.con == "":
		return !a.has(b.num) && s.set(b.num, a)
	case a.con != b.con || len(a.kids) != len(b.kids):
		return false
	}
	for i := range a.kids {
		if !s.add(a.kids[i], b.kids[i]) {
			return false
		}
	}
	return true
}

// set replaces the variable num.
func (s solution) set(num int, by *model) bool {
	for other, m := range s {
		s[other] = m.with(num, by)
	}
	s[num] = by
	return true
}

// addTypes does for types what add does for models.
func (s solution) addTypes(a, b nodes) bool {
	x, _ := modelOf(a)
	y, _ := modelOf(b)
	return s.add(x, y)
}

// binds returns the solution in the form that package typ tells it in.
func (s solution) binds() []api.Bind {
	var l []api.Bind
	for num, m := range s {
		l = append(l, api.Bind{Var: num, Type: m.nodes()})
	}
	slices.SortFunc(l, func(a, b api.Bind) int { return a.Var - b.Var })
	return l
}

// A reader reads the text of a type.
type reader struct{ words []string }

// read returns the type of a text: what is applied, and what follows an arrow.
func read(s string) nodes {
	r := reader{regexp.MustCompile(`'\d+|\w[\w']*|->|[()]`).FindAllString(s, -1)}
	return r.arrow()
}

// next tells whether the next word begins with one of these bytes.
func (r *reader) next(first string) bool {
	return len(r.words) > 0 && strings.Contains(first, r.words[0][:1])
}

// word takes the next word.
func (r *reader) word() string {
	w := r.words[0]
	r.words = r.words[1:]
	return w
}

func (r *reader) arrow() nodes {
	t := r.applied()
	if r.next("-") {
		r.word()
		return fun(t, r.arrow())
	}
	return t
}

func (r *reader) applied() nodes {
	if r.next("'(") {
		return r.atom()
	}
	text := r.word()
	var kids []nodes
	for len(r.words) > 0 && !r.next("-)") {
		kids = append(kids, r.atom())
	}
	return con(text, kids...)
}

func (r *reader) atom() nodes {
	w := r.word()
	switch w[0] {
	case '(':
		t := r.arrow()
		r.word()
		return t
	case '\'':
		num, _ := strconv.ParseInt(w[1:], 10, 64)
		return v(num)
	}
	return con(w)
}
