package layout

import (
	"strings"

	"triglyph/api"
)

// A style is what a part of a document takes over from what it is in.
type style struct {
	indent int
	flat   bool
}

// A printer lays out one document.
type printer struct {
	doc   []api.Node
	sizes []int // what flatSizes tells of doc
	width int
	at    complex128 // the current position: its real part is the column, its imaginary part the line
	write func(s string)
}

// layOut returns the document doc as it is laid out with that width, beginning in that style.
func layOut(doc []api.Node, width int, s style) string {
	var out strings.Builder
	p := printer{
		doc:   doc,
		sizes: flatSizes(doc),
		width: width,
		write: func(s string) { out.WriteString(s) },
	}
	p.lay(0, s)
	return out.String()
}

// lay lays out the tree at the index first in that style, and returns the index after it.
func (p *printer) lay(first int, s style) int {
	n := p.doc[first]
	switch n.Kind {
	case api.DocText:
		p.write(n.Text)
		p.at += complex(float64(len(n.Text)), 0)
	case api.DocLine:
		p.move(p.after(s))
	case api.DocNest:
		s.indent += int(n.Num)
	case api.DocGroup:
		s.flat = s.flat || p.fits(first+1)
	}
	next := first + 1
	for range n.Kids {
		next = p.lay(next, s)
	}
	return next
}

// after returns the position after a DocLine in that style.
func (p *printer) after(s style) complex128 {
	if s.flat {
		return p.at + 1
	}
	return complex(float64(s.indent), imag(p.at)+1)
}

// move goes to a later position: on another line it begins in column 0.
func (p *printer) move(to complex128) {
	column := real(p.at)
	if lines := int(imag(to - p.at)); lines > 0 {
		p.write(strings.Repeat("\n", lines))
		column = 0
	}
	p.write(strings.Repeat(" ", int(real(to)-column)))
	p.at = to
}

// fits reports whether the tree at the index first ends within the width if it is laid out flat from here on.
func (p *printer) fits(first int) bool {
	return int(real(p.at))+p.sizes[first] <= p.width
}

// flatSizes returns for each index how many bytes the tree at this index has if it is laid out flat.
func flatSizes(doc []api.Node) []int {
	sizes := make([]int, len(doc))
	// All at once and from the end, where the kids come before their parent: had each group to measure its kid by
	// itself, groups in groups would take quadratic time.
	var kids []int // the sizes of the trees that begin later and have no parent so far, the last one first
	for at := len(doc) - 1; at >= 0; at-- {
		size := ownSize(doc[at])
		rest := len(kids) - doc[at].Kids
		for _, kid := range kids[rest:] {
			size += kid
		}
		sizes[at] = size
		kids = append(kids[:rest], size)
	}
	return sizes
}

// ownSize returns how many bytes n has by itself if it is laid out flat.
func ownSize(n api.Node) int {
	if n.Kind == api.DocLine {
		return len(" ")
	}
	return len(n.Text)
}
