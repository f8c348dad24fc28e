package layout_test

import (
	"math"
	"slices"
	"strconv"
	"strings"
	"testing"

	"triglyph/api"
	"triglyph/layout"
)

// words returns the document of words with lines between them.
func words(s string) []api.Node {
	var docs [][]api.Node
	for i, word := range strings.Fields(s) {
		if i > 0 {
			docs = append(docs, layout.Line())
		}
		docs = append(docs, layout.Text(word))
	}
	return layout.Cat(docs...)
}

// within returns doc in n nodes that each have one kid and are like outer.
func within(n int, outer api.Node, doc []api.Node) []api.Node {
	outer.Kids = 1
	return slices.Concat(slices.Repeat([]api.Node{outer}, n), doc)
}

// lines returns a document of n nodes: lines in one DocCat.
func lines(n int) []api.Node {
	l := slices.Repeat([]api.Node{{Kind: api.DocLine}}, n)
	l[0] = api.Node{Kind: api.DocCat, Kids: n - 1}
	return l
}

// call is a document of groups in groups.
func call() []api.Node {
	inner := layout.Group(layout.Cat(layout.Text("g("), layout.Nest(2, layout.Cat(layout.Line(), layout.Text("b"))), layout.Line(), layout.Text(")")))
	return layout.Group(layout.Cat(layout.Text("f("), layout.Nest(4, layout.Cat(layout.Line(), layout.Text("alpha,"), layout.Line(), inner)), layout.Line(), layout.Text(")")))
}

// textOf are all characters of a DocText.
func textOf() string {
	var s []byte
	for c := byte(32); c <= 126; c++ {
		s = append(s, c)
	}
	return string(s)
}

// valid are documents.
func valid() [][]api.Node {
	l := [][]api.Node{
		call(), words("a b c"), layout.Cat(), layout.Line(), layout.Text(""), layout.Text("a"), layout.Text("  "), layout.Text(textOf()), layout.Text(strings.Repeat("a", 1<<17)),
		layout.Group(layout.Line()), layout.Cat(layout.Cat()), layout.Cat(layout.Text("")), layout.Cat(layout.Line(), layout.Line()),
		lines(api.MaxNodes), within(api.MaxNodes-1, api.Node{Kind: api.DocGroup}, layout.Line()), within(api.MaxNodes-1, api.Node{Kind: api.DocNest, Num: 40}, layout.Line()), within(api.MaxNodes-1, api.Node{Kind: api.DocCat}, layout.Cat()),
	}
	for n := range 41 {
		l = append(l, layout.Nest(n, layout.Text("a")))
	}
	return l
}

// wrongNodes are nodes, each of which may not be in a document because of one field; the number of its kids is that of its Kids, if there can be as many.
func wrongNodes() []api.Node {
	l := []api.Node{
		{}, {Kind: -1}, {Kind: 40}, {Kind: 46}, {Kind: api.PatAny}, {Kind: api.ExpText, Text: "a"}, {Kind: api.TypCon}, {Kind: api.ValInt}, {Kind: api.DocText + 256}, {Kind: api.DocText + 1<<32}, {Kind: math.MaxInt}, {Kind: math.MinInt},
		{Kind: api.DocText, Kids: 1}, {Kind: api.DocText, Text: "a", Kids: 2},
		{Kind: api.DocLine, Text: "a"}, {Kind: api.DocLine, Text: " "}, {Kind: api.DocLine, Kids: 1}, {Kind: api.DocLine, Kids: 2},
		{Kind: api.DocNest, Num: 2}, {Kind: api.DocNest, Num: 2, Kids: 2}, {Kind: api.DocNest, Num: 2, Kids: 1, Text: "a"},
		{Kind: api.DocGroup}, {Kind: api.DocGroup, Kids: 2}, {Kind: api.DocGroup, Kids: 3}, {Kind: api.DocGroup, Kids: 1, Text: "a"},
		{Kind: api.DocCat, Text: "a"}, {Kind: api.DocCat, Text: "a", Kids: 1},
		{Kind: api.DocText, Kids: -1}, {Kind: api.DocLine, Kids: -1}, {Kind: api.DocNest, Kids: -1}, {Kind: api.DocGroup, Kids: -1}, {Kind: api.DocCat, Kids: -1}, {Kind: api.DocCat, Kids: math.MinInt}, {Kind: api.DocCat, Kids: math.MaxInt}, {Kind: api.DocCat, Kids: 1 << 32},
	}
	for _, n := range []int64{1, -1, 40, 1 << 32, math.MinInt64, math.MaxInt64} {
		l = append(l, api.Node{Kind: api.DocText, Text: "a", Num: n}, api.Node{Kind: api.DocLine, Num: n}, api.Node{Kind: api.DocGroup, Num: n, Kids: 1}, api.Node{Kind: api.DocCat, Num: n}, api.Node{Kind: api.DocCat, Num: n, Kids: 1})
	}
	for _, n := range []int64{-1, 41, 256, 1 << 32, -1 << 32, math.MinInt64, math.MaxInt64} {
		l = append(l, api.Node{Kind: api.DocNest, Num: n, Kids: 1})
	}
	for b := range 256 {
		if b < 32 || b > 126 {
			s := string([]byte{byte(b)})
			for _, text := range []string{s, s + "a", "a" + s, "a" + s + "a"} {
				l = append(l, api.Node{Kind: api.DocText, Text: text})
			}
		}
	}
	for _, s := range []string{"é", "日本", "a\u2028", "\U0001f600", "a\r\n", "\ufffd", "\xc3", "\xc3\x28", strings.Repeat("a", 1<<16) + "\n"} {
		l = append(l, api.Node{Kind: api.DocText, Text: s})
	}
	return l
}

// invalid are lists of nodes that are not documents.
func invalid() map[string][]api.Node {
	l := map[string][]api.Node{
		"nil":                  nil,
		"empty":                {},
		"two trees":            slices.Concat(layout.Text("a"), layout.Text("b")),
		"two lines":            slices.Concat(layout.Line(), layout.Line()),
		"a kid too few":        {{Kind: api.DocCat, Kids: 2}, {Kind: api.DocLine}},
		"a kid too many":       {{Kind: api.DocCat, Kids: 1}, {Kind: api.DocLine}, {Kind: api.DocLine}},
		"a nest of nothing":    layout.Nest(2, nil),
		"a group of nothing":   layout.Group(nil),
		"a cat of nothing":     layout.Cat(nil),
		"4001 nodes":           lines(api.MaxNodes + 1),
		"4001 nodes, deep":     within(api.MaxNodes, api.Node{Kind: api.DocNest}, layout.Line()),
		"2^16 nodes":           lines(1 << 16),
		"4001 nodes, no tree":  append(lines(api.MaxNodes), api.Node{Kind: api.DocLine}),
		"4000 nodes, no tree":  append(lines(api.MaxNodes-1), api.Node{Kind: api.DocLine}),
		"the last of the most": append(lines(api.MaxNodes)[:api.MaxNodes-1], api.Node{Kind: api.DocText, Text: "\t"}),
	}
	for i, n := range wrongNodes() {
		kids := slices.Repeat([]api.Node{{Kind: api.DocText, Text: "k"}}, min(max(n.Kids, 0), 9))
		bad := append([]api.Node{n}, kids...)
		name := "a wrong node " + strconv.Itoa(i)
		l[name] = bad
		l[name+", first"] = layout.Cat(bad, layout.Text("a"))
		l[name+", last"] = layout.Nest(1, layout.Group(layout.Cat(layout.Text("a"), bad)))
	}
	return l
}

// P5.1: what is a document, and what is not.
func TestCheck(t *testing.T) {
	for i, doc := range valid() {
		if e := layout.Check(doc); e != api.OK {
			t.Errorf("Check of document %d: %d", i, e)
		}
		if _, e := layout.Flat(doc); e != api.OK {
			t.Errorf("Flat of document %d: %d", i, e)
		}
		if _, e := layout.Layout(doc, 80); e != api.OK {
			t.Errorf("Layout of document %d: %d", i, e)
		}
	}
	for name, doc := range invalid() {
		if e := layout.Check(doc); e != api.ErrLayoutForm {
			t.Errorf("%s: Check: %d", name, e)
		}
		if s, e := layout.Flat(doc); s != "" || e != api.ErrLayoutForm {
			t.Errorf("%s: Flat: %q, %d", name, s, e)
		}
		// That it is no document is told before the width is.
		for _, width := range []int{1, 80, api.MaxWidth, 0, -1, api.MaxWidth + 1} {
			if s, e := layout.Layout(doc, width); s != "" || e != api.ErrLayoutForm {
				t.Errorf("%s: Layout with the width %d: %q, %d", name, width, s, e)
			}
		}
	}
}

// P5.1: which widths there are.
func TestWidth(t *testing.T) {
	for width := 1; width <= api.MaxWidth; width++ {
		if s, e := layout.Layout(layout.Text("ab"), width); s != "ab" || e != api.OK {
			t.Errorf("the width %d: %q, %d", width, s, e)
		}
	}
	for _, width := range []int{0, -1, -80, api.MaxWidth + 1, 1 << 20, 1<<32 + 80, math.MaxInt, math.MinInt} {
		for _, doc := range [][]api.Node{layout.Text("ab"), layout.Cat(), call()} {
			if s, e := layout.Layout(doc, width); s != "" || e != api.ErrLayoutWidth {
				t.Errorf("the width %d: %q, %d", width, s, e)
			}
		}
	}
}

// P5.1: what is laid out flat.
func TestFlat(t *testing.T) {
	for _, x := range []struct {
		doc  []api.Node
		want string
	}{
		{call(), "f( alpha, g( b ) )"},
		{layout.Text(""), ""},
		{layout.Text("a b"), "a b"},
		{layout.Text(textOf()), textOf()},
		{layout.Line(), " "},
		{layout.Cat(), ""},
		{layout.Nest(40, layout.Line()), " "},
		{layout.Nest(7, layout.Text("a")), "a"},
		{layout.Group(layout.Line()), " "},
		{words("a b c"), "a b c"},
		{layout.Nest(3, words("a b c")), "a b c"},
		{layout.Cat(layout.Line(), layout.Cat(), layout.Line()), "  "},
		{layout.Cat(layout.Text("a"), layout.Cat(layout.Text("b"), layout.Text("c")), layout.Text("d")), "abcd"},
		{words(strings.Repeat("word ", 1000)), strings.Repeat("word ", 1000)[:4999]},
		{lines(api.MaxNodes), strings.Repeat(" ", api.MaxNodes-1)},
	} {
		if s, e := layout.Flat(x.doc); s != x.want || e != api.OK {
			t.Errorf("Flat: %q, %d; not %q", s, e, x.want)
		}
	}
}

// P5.1: the document's example, groups in groups, at each width at which something changes.
func TestLayoutGroups(t *testing.T) {
	ab := layout.Group(words("a b"))
	for _, x := range []struct {
		doc      []api.Node
		from, to int
		want     string
	}{
		{ab, 3, 1000, "a b"},
		{ab, 1, 2, "a\nb"},
		{call(), 18, 1000, "f( alpha, g( b ) )"},
		{call(), 10, 17, "f(\n    alpha,\n    g( b )\n)"},
		{call(), 1, 9, "f(\n    alpha,\n    g(\n      b\n    )\n)"},
		// What stands before a group counts, what stands after it does not.
		{layout.Cat(layout.Text("12345"), ab), 8, 1000, "12345a b"},
		{layout.Cat(layout.Text("12345"), ab), 1, 7, "12345a\nb"},
		{layout.Cat(ab, layout.Text("12345")), 3, 1000, "a b12345"},
		{layout.Cat(ab, layout.Text("12345")), 1, 2, "a\nb12345"},
		{layout.Cat(ab, layout.Line(), ab), 3, 1000, "a b\na b"},
		{layout.Cat(ab, ab), 6, 1000, "a ba b"},
		{layout.Cat(ab, ab), 4, 5, "a ba\nb"},
		{layout.Cat(ab, ab), 3, 3, "a ba\nb"},
		{layout.Cat(ab, ab), 1, 2, "a\nba\nb"},
		// The column after a line counts from this line on, with its indentation.
		{layout.Nest(4, layout.Cat(layout.Text("1234567890"), layout.Line(), ab)), 7, 1000, "1234567890\n    a b"},
		{layout.Nest(4, layout.Cat(layout.Text("1234567890"), layout.Line(), ab)), 1, 6, "1234567890\n    a\n    b"},
		// An indentation alone does not move the column.
		{layout.Nest(4, ab), 3, 1000, "a b"},
		{layout.Nest(4, ab), 1, 2, "a\n    b"},
		// Groups in a group are flat with it; if it is not flat, each is asked by itself.
		{layout.Group(layout.Cat(ab, layout.Line(), ab)), 7, 1000, "a b a b"},
		{layout.Group(layout.Cat(ab, layout.Line(), ab)), 3, 6, "a b\na b"},
		{layout.Group(layout.Cat(ab, layout.Line(), ab)), 1, 2, "a\nb\na\nb"},
		{layout.Group(layout.Group(words("a b"))), 3, 1000, "a b"},
		{layout.Group(layout.Group(words("a b"))), 1, 2, "a\nb"},
		// A text does not break, however narrow it is.
		{layout.Group(layout.Text("abc def")), 1, 1000, "abc def"},
		{layout.Group(layout.Cat()), 1, 1000, ""},
		{layout.Cat(layout.Text("abc"), layout.Group(layout.Cat())), 1, 1000, "abc"},
		{layout.Group(layout.Line()), 1, 1000, " "},
		{layout.Cat(layout.Text("a"), layout.Group(layout.Line())), 2, 1000, "a "},
		{layout.Cat(layout.Text("a"), layout.Group(layout.Line())), 1, 1, "a\n"},
	} {
		for width := x.from; width <= x.to; width++ {
			if s, e := layout.Layout(x.doc, width); s != x.want || e != api.OK {
				t.Errorf("Layout with the width %d: %q, %d; not %q", width, s, e, x.want)
				break
			}
		}
	}
}

// P5.1: what is in no group has each line broken, with any width, and indentations add up.
func TestLayoutLines(t *testing.T) {
	for _, x := range []struct {
		doc  []api.Node
		want string
	}{
		{layout.Line(), "\n"},
		{layout.Text("a b"), "a b"},
		{layout.Text(""), ""},
		{layout.Cat(), ""},
		{layout.Text(textOf()), textOf()},
		{words("a b c"), "a\nb\nc"},
		{layout.Nest(0, words("a b")), "a\nb"},
		{layout.Nest(1, words("a b")), "a\n b"},
		{layout.Nest(40, words("a b")), "a\n" + strings.Repeat(" ", 40) + "b"},
		{layout.Nest(2, layout.Nest(3, words("a b"))), "a\n     b"},
		{layout.Nest(40, layout.Nest(40, words("a b"))), "a\n" + strings.Repeat(" ", 80) + "b"},
		{layout.Cat(layout.Nest(2, words("a b")), layout.Line(), layout.Text("c")), "a\n  b\nc"},
		{layout.Cat(layout.Nest(2, layout.Text("a")), layout.Line(), layout.Text("c")), "a\nc"},
		{layout.Nest(1, layout.Cat(layout.Nest(2, words("a b")), layout.Line(), layout.Nest(3, words("c d")), layout.Line(), layout.Text("e"))), "a\n   b\n c\n    d\n e"},
		// An indentation is written even if nothing follows it in its line.
		{layout.Nest(2, layout.Line()), "\n  "},
		{layout.Nest(2, layout.Cat(layout.Line(), layout.Line())), "\n  \n  "},
		{layout.Nest(2, layout.Cat(layout.Text("a"), layout.Line(), layout.Text(""), layout.Line(), layout.Text("b "))), "a\n  \n  b "},
		{lines(api.MaxNodes), strings.Repeat("\n", api.MaxNodes-1)},
	} {
		for _, width := range []int{1, 2, 80, api.MaxWidth} {
			if s, e := layout.Layout(x.doc, width); s != x.want || e != api.OK {
				t.Errorf("Layout with the width %d: %q, %d; not %q", width, s, e, x.want)
			}
		}
	}
}

// P5.1: the column of long lines and great indentations is right to a byte.
func TestLayoutFarColumns(t *testing.T) {
	ab := layout.Group(words("a b"))
	for n := 990; n <= 1000; n++ {
		want := "a b"
		if n+3 > api.MaxWidth {
			want = "a\nb"
		}
		long := strings.Repeat("x", n)
		if s, e := layout.Layout(layout.Cat(layout.Text(long), ab), api.MaxWidth); s != long+want || e != api.OK {
			t.Errorf("after %d bytes: %q, %d", n, s[min(n, len(s)):], e)
		}
	}
	for _, n := range []int{1001, 1 << 16, 1<<24 + 1} {
		long := strings.Repeat("x", n)
		if s, e := layout.Layout(layout.Cat(layout.Text(long), ab), api.MaxWidth); s != long+"a\nb" || e != api.OK {
			t.Errorf("after %d bytes: %q, %d", n, s[min(n, len(s)):], e)
		}
		if s, e := layout.Layout(layout.Group(layout.Cat(layout.Line(), layout.Text(long))), api.MaxWidth); s != "\n"+long || e != api.OK {
			t.Errorf("a group of %d bytes: %.9q, %d", n, s, e)
		}
	}
	// 24 nests of 40 and one: 960 to 1000 columns.
	for n := range 41 {
		want := "\n" + strings.Repeat(" ", 960+n) + "a b"
		if n > 37 {
			want = "\n" + strings.Repeat(" ", 960+n) + "a\n" + strings.Repeat(" ", 960+n) + "b"
		}
		doc := within(24, api.Node{Kind: api.DocNest, Num: 40}, layout.Nest(n, layout.Cat(layout.Line(), ab)))
		if s, e := layout.Layout(doc, api.MaxWidth); s != want || e != api.OK {
			t.Errorf("indented by %d: %q, %d", 960+n, s, e)
		}
	}
}

// P5.1: documents as great as they may be, most of all groups in groups.
func TestLayoutGreatDocuments(t *testing.T) {
	deep := within(api.MaxNodes-1, api.Node{Kind: api.DocNest, Num: 40}, layout.Line())
	if s, e := layout.Layout(deep, 1); s != "\n"+strings.Repeat(" ", 40*(api.MaxNodes-1)) || e != api.OK {
		t.Errorf("3999 nests: %d bytes, %d", len(s), e)
	}
	groups := within(api.MaxNodes-1, api.Node{Kind: api.DocGroup}, layout.Text("ab"))
	if s, e := layout.Layout(groups, 1); s != "ab" || e != api.OK {
		t.Errorf("3999 groups: %q, %d", s, e)
	}
	// Each of 999 groups has a letter, a line and the next group: only the innermost ones fit.
	var doc []api.Node
	var broken, flat string
	for i := range 999 {
		kids := 3
		if i == 998 {
			kids = 2
		}
		doc = append(doc, api.Node{Kind: api.DocGroup, Kids: 1}, api.Node{Kind: api.DocCat, Kids: kids}, api.Node{Kind: api.DocText, Text: "x"}, api.Node{Kind: api.DocLine})
		broken, flat = broken+"x\n", flat+"x "
	}
	for _, width := range []int{1, 2, 3, 100, 101, 999, 1000} {
		// A group fits if it and those in it have at most so many bytes, two for each.
		fit := width / 2
		want := broken[:1998-2*fit] + flat[1998-2*fit:]
		if s, e := layout.Layout(doc, width); s != want || e != api.OK {
			t.Errorf("999 groups with the width %d: %.30q, %d", width, s, e)
		}
	}
}

// model lays out a document as the chapter says it, word by word.
type model struct {
	doc    []api.Node
	width  int
	out    string
	column int
}

// part lays out the subtree at an index and returns the index after it.
func (m *model) part(at, indent int, flat bool) int {
	n := m.doc[at]
	switch n.Kind {
	case api.DocText:
		m.out, m.column = m.out+n.Text, m.column+len(n.Text)
	case api.DocLine:
		if flat {
			m.out, m.column = m.out+" ", m.column+1
		} else {
			m.out, m.column = m.out+"\n"+strings.Repeat(" ", indent), indent
		}
	case api.DocNest:
		indent += int(n.Num)
	case api.DocGroup:
		alone := model{doc: m.doc}
		alone.part(at+1, 0, true)
		flat = flat || m.column+len(alone.out) <= m.width
	}
	at++
	for range n.Kids {
		at = m.part(at, indent, flat)
	}
	return at
}

// squeeze returns s without spaces and line feeds.
func squeeze(s string) string {
	return strings.NewReplacer(" ", "", "\n", "").Replace(s)
}

// compare compares what is laid out with what the model lays out (P5.1), and with what is laid out flat (P5.3).
func compare(t *testing.T, doc []api.Node, widths ...int) {
	flat := model{doc: doc}
	flat.part(0, 0, true)
	s, e := layout.Flat(doc)
	if s != flat.out || e != api.OK {
		t.Fatalf("Flat(%v) = %q, %d; not %q", doc, s, e, flat.out)
	}
	for _, width := range widths {
		m := model{doc: doc, width: width}
		m.part(0, 0, false)
		s, e := layout.Layout(doc, width)
		if s != m.out || e != api.OK {
			t.Fatalf("Layout(%v, %d) = %q, %d; not %q", doc, width, s, e, m.out)
		}
		if squeeze(s) != squeeze(flat.out) {
			t.Fatalf("Layout(%v, %d) = %q, but Flat is %q", doc, width, s, flat.out)
		}
	}
}

// documents returns, for each number up to most, the documents with so many nodes of a few kinds.
func documents(most int) [][][]api.Node {
	rows := [][][][]api.Node{{{}}} // by the number of nodes: lists of documents, each list a row of trees
	all := [][][]api.Node{nil}
	for n := 1; n <= most; n++ {
		var docs [][]api.Node
		if n == 1 {
			docs = append(docs, layout.Text(""), layout.Text("a"), layout.Text("bcd"), layout.Line())
		}
		for _, row := range rows[n-1] {
			docs = append(docs, layout.Cat(row...))
			if len(row) == 1 {
				docs = append(docs, layout.Group(row[0]), layout.Nest(2, row[0]))
			}
		}
		all = append(all, docs)
		var next [][][]api.Node
		for first := 1; first <= n; first++ {
			for _, doc := range all[first] {
				for _, row := range rows[n-first] {
					next = append(next, slices.Concat([][]api.Node{doc}, row))
				}
			}
		}
		rows = append(rows, next)
	}
	return all
}

// P5.1, P5.3: all small documents.
func TestSmallDocuments(t *testing.T) {
	for _, docs := range documents(6) {
		for _, doc := range docs {
			compare(t, doc, 1, 2, 3, 4, 5, 6, 7, 1000)
		}
	}
}

// a source tells numbers by a rule that is the same in each run.
type source uint32

func (s *source) below(n int) int {
	*s = *s*1664525 + 1013904223
	return int(*s>>8) % n
}

// document returns a document of at most that many nodes.
func (s *source) document(nodes int) []api.Node {
	if nodes == 1 {
		return [][]api.Node{layout.Line(), layout.Text(textOf()[:s.below(9)]), layout.Text("w"), layout.Text("a, b")}[s.below(4)]
	}
	switch s.below(5) {
	case 0:
		return layout.Nest(s.below(5), s.document(nodes-1))
	case 1:
		return layout.Group(s.document(nodes - 1))
	}
	var kids [][]api.Node
	for left := nodes - 1; left > 0; {
		n := 1 + s.below(left)
		kids, left = append(kids, s.document(n)), left-n
	}
	return layout.Cat(kids...)
}

// P5.1, P5.3: greater documents.
func TestGreaterDocuments(t *testing.T) {
	s := source(5)
	for range 1000 {
		compare(t, s.document(1+s.below(120)), 1, 5, 10, 20, 40, 80, 1+s.below(1000))
	}
	for range 10 {
		compare(t, s.document(1000), 1, 10, 100, 1000)
	}
}

// P5.2: the root with its kids, which are not checked.
func TestMakers(t *testing.T) {
	a, b := layout.Text("a"), words("b c")
	wrong := []api.Node{{Kind: 99, Text: "\n", Num: -5, Kids: -7}, {Kids: 3}}
	for i, x := range []struct{ got, want []api.Node }{
		{a, []api.Node{{Kind: api.DocText, Text: "a"}}},
		{layout.Text(""), []api.Node{{Kind: api.DocText}}},
		{layout.Text("\n\xff é"), []api.Node{{Kind: api.DocText, Text: "\n\xff é"}}},
		{layout.Line(), []api.Node{{Kind: api.DocLine}}},
		{layout.Nest(3, a), []api.Node{{Kind: api.DocNest, Num: 3, Kids: 1}, a[0]}},
		{layout.Nest(0, b), []api.Node{{Kind: api.DocNest, Kids: 1}, b[0], b[1], b[2], b[3]}},
		{layout.Nest(-1, a), []api.Node{{Kind: api.DocNest, Num: -1, Kids: 1}, a[0]}},
		{layout.Nest(41, a), []api.Node{{Kind: api.DocNest, Num: 41, Kids: 1}, a[0]}},
		{layout.Nest(math.MaxInt, nil), []api.Node{{Kind: api.DocNest, Num: math.MaxInt, Kids: 1}}},
		{layout.Nest(math.MinInt, wrong), []api.Node{{Kind: api.DocNest, Num: math.MinInt, Kids: 1}, wrong[0], wrong[1]}},
		{layout.Group(a), []api.Node{{Kind: api.DocGroup, Kids: 1}, a[0]}},
		{layout.Group(b), []api.Node{{Kind: api.DocGroup, Kids: 1}, b[0], b[1], b[2], b[3]}},
		{layout.Group(nil), []api.Node{{Kind: api.DocGroup, Kids: 1}}},
		{layout.Group(wrong), []api.Node{{Kind: api.DocGroup, Kids: 1}, wrong[0], wrong[1]}},
		{layout.Cat(), []api.Node{{Kind: api.DocCat}}},
		{layout.Cat(a), []api.Node{{Kind: api.DocCat, Kids: 1}, a[0]}},
		{layout.Cat(b, a), []api.Node{{Kind: api.DocCat, Kids: 2}, b[0], b[1], b[2], b[3], a[0]}},
		{layout.Cat(a, b, a), []api.Node{{Kind: api.DocCat, Kids: 3}, a[0], b[0], b[1], b[2], b[3], a[0]}},
		{layout.Cat(nil, wrong, a), []api.Node{{Kind: api.DocCat, Kids: 3}, wrong[0], wrong[1], a[0]}},
		{layout.Cat(make([][]api.Node, 5000)...), []api.Node{{Kind: api.DocCat, Kids: 5000}}},
	} {
		if !slices.Equal(x.got, x.want) {
			t.Errorf("%d: %v, not %v", i, x.got, x.want)
		}
	}
}

// P1: arguments stay as they are, their unused capacity included.
func TestArgumentsStay(t *testing.T) {
	all := append(call(), api.Node{Kind: 99, Text: "behind"})
	kept := slices.Clone(all)
	doc := all[:len(all)-1]
	docs := [][]api.Node{doc, doc[:1], all}
	layout.Check(doc)
	layout.Flat(doc)
	for _, width := range []int{1, 10, 18, 1000} {
		layout.Layout(doc, width)
	}
	layout.Nest(2, doc)
	layout.Group(doc)
	layout.Cat(doc, doc)
	layout.Cat(docs[:2]...)
	if !slices.Equal(all, kept) || len(docs[0]) != len(doc) || len(docs[1]) != 1 || len(docs[2]) != len(all) {
		t.Error("an argument has changed", all, docs)
	}
}

// P1: results share no memory with arguments, nor with each other.
func TestResultsAreNew(t *testing.T) {
	doc := layout.Text("a")
	for i, made := range [][]api.Node{layout.Nest(1, doc), layout.Group(doc), layout.Cat(doc), layout.Cat(doc, doc), layout.Text("a"), layout.Line(), layout.Cat()} {
		clear(made[:cap(made)])
		if doc[0] != (api.Node{Kind: api.DocText, Text: "a"}) {
			t.Fatalf("result %d shares memory with its argument", i)
		}
	}
	if line := layout.Line(); line[0].Kind != api.DocLine {
		t.Error("lines share memory", line)
	}
	made := layout.Cat(doc, doc)
	made[1].Text = "b"
	if made[2].Text != "a" {
		t.Error("kids share memory", made)
	}
	doc[0].Text = "c"
	if made[2].Text != "a" {
		t.Error("a result has changed with its argument", made)
	}
}
