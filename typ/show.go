package typ

import (
	"strconv"
	"strings"

	"triglyph/api"
)

// Show returns the text of the type t, or the error of Check.
func Show(t []api.Node) (string, api.Errno) {
	if e := Check(t); e != api.OK {
		return "", e
	}
	var text strings.Builder
	write(&text, t, 0)
	return text.String(), api.OK
}

// write adds the text of the type at the index at of t to text, and returns the index after it.
func write(text *strings.Builder, t []api.Node, at int) int {
	n := t[at]
	at++
	switch {
	case n.Kind == api.TypVar:
		text.WriteString("'" + strconv.FormatInt(n.Num, 10))
		return at
	case n.Text == arrow:
		at = writePart(text, t, at, func(n api.Node) bool { return n.Text == arrow })
		text.WriteString(" -> ")
		return write(text, t, at)
	}
	text.WriteString(n.Text)
	for range n.Kids {
		text.WriteString(" ")
		at = writePart(text, t, at, func(n api.Node) bool { return n.Kids > 0 })
	}
	return at
}

// writePart does the same, with parentheses if enclosed tells so of the root.
func writePart(text *strings.Builder, t []api.Node, at int, enclosed func(n api.Node) bool) int {
	if !enclosed(t[at]) {
		return write(text, t, at)
	}
	text.WriteString("(")
	at = write(text, t, at)
	text.WriteString(")")
	return at
}
