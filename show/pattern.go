package show

import (
	"strings"

	"triglyph/api"
	"triglyph/lex"
	"triglyph/word"
)

// nameText returns the text of a name.
func nameText(name string) string {
	if lex.Right(api.Token{Kind: api.TokOp, Text: name}) {
		return "(" + name + ")"
	}
	return name
}

// writePattern adds the text of the pattern at the index at of l to text, and returns the index after it.
func writePattern(text *strings.Builder, l []api.Node, at int) int {
	n := l[at]
	switch n.Kind {
	case api.PatAny:
		text.WriteString("_")
	case api.PatVar:
		text.WriteString(nameText(n.Text))
	case api.PatInt:
		text.WriteString(word.Show(n.Num))
	case api.PatCon:
		text.WriteString(n.Text)
	}
	enclosed := func(n api.Node) bool { return n.Kind == api.PatCon && n.Kids > 0 }
	at++
	for range n.Kids {
		opening, closing := " ", ""
		if enclosed(l[at]) {
			opening, closing = " (", ")"
		}
		text.WriteString(opening)
		at = writePattern(text, l, at)
		text.WriteString(closing)
	}
	return at
}
