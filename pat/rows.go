package pat

import (
	"triglyph/api"
	"triglyph/tree"
)

// A place is a part of the values that are searched for.
type place struct {
	t     int      // its type
	node  api.Node // the root of the pattern of what it may be
	above int      // the place that it is an argument of, or -1
	deep  int      // how deep it is
	first int      // the place of its first argument
	wants []want   // what the rows ask of it
}

// A want is what a row asks of a place: a PatInt or a PatCon.
type want struct {
	x *row
	p []api.Node
}

// A row is one of the patterns that are not to match. It matches if at all places what it asks is chosen.
type row struct {
	asks []int // the places of its wants; those at which nothing is chosen are open
	open int   // how many are open
	off  int   // the place at which something else is chosen, so that it does not match; -1 if there is none
}

// wild reports whether n is a pattern that asks nothing.
func wild(n api.Node) bool { return n.Kind == api.PatAny || n.Kind == api.PatVar }

// meet goes through the patterns p and wanted, from the roots on, until see returns false for a node of p and the index
// of the node of wanted at the same place. What is below a pattern that asks nothing is left out.
func (s *search) meet(p []api.Node, see func(p []api.Node, at int) bool) bool {
	for at := 0; len(p) > 0; {
		if !see(p, at) {
			return false
		}
		end, next := 1, at+1
		if wild(p[0]) {
			next = tree.End(s.wanted, at)
		} else if wild(s.wanted[at]) {
			end = tree.End(p, 0)
		}
		p, at = p[end:], next
	}
	return true
}

// overlaps reports whether the pattern p matches some of the values that wanted matches.
func (s *search) overlaps(p []api.Node) bool {
	return s.meet(p, func(p []api.Node, at int) bool {
		return wild(p[0]) || wild(s.wanted[at]) || p[0] == s.wanted[at]
	})
}

// add adds the row of the pattern p, which overlaps. It returns false if p matches all values that wanted matches.
func (s *search) add(p []api.Node) bool {
	x := &row{off: -1}
	s.meet(p, func(p []api.Node, at int) bool {
		if wild(s.wanted[at]) {
			s.ask(x, at, p)
		}
		return true
	})
	s.rows = append(s.rows, x)
	return x.open > 0
}

// ask notes what x asks of a place: the pattern with which p begins.
func (s *search) ask(x *row, at int, p []api.Node) {
	if !wild(p[0]) {
		s.places[at].wants = append(s.places[at].wants, want{x, p[:tree.End(p, 0)]})
		x.asks = append(x.asks, at)
		x.open++
	}
}

// put puts n at a place, and makes places for its arguments.
func (s *search) put(at int, n api.Node) {
	x := &s.places[at]
	x.node, x.first = n, len(s.places)
	s.nodes += n.Kids
	if n.Kids == 0 {
		return
	}
	deep := x.deep + 1
	args, _ := s.args(x.t, n.Text)
	for _, t := range args {
		s.places = append(s.places, place{t: t, node: api.Node{Kind: api.PatAny}, above: at, deep: deep})
	}
}

// answer tells the rows what has been put at a place. It returns a row that matches now, if there is one.
func (s *search) answer(at int) *row {
	var matches *row
	here := s.places[at]
	for _, w := range here.wants {
		if w.x.off >= 0 {
			continue
		}
		if w.p[0] != here.node {
			w.x.off = at
			continue
		}
		w.x.open--
		for i, kid := range tree.Kids(w.p, 0) {
			s.ask(w.x, here.first+i, w.p[kid:])
		}
		if w.x.open == 0 {
			matches = w.x
		}
		if w.x.open == 1 {
			s.ready = append(s.ready, w.x)
		}
	}
	return matches
}

// takeBack takes back what was put at a place, and what the rows were told. Whatever was put later has been taken back
// before.
func (s *search) takeBack(at int) {
	here := s.places[at]
	for _, w := range here.wants {
		switch w.x.off {
		case at:
			w.x.off = -1
		case -1:
			w.x.open++
			for len(w.x.asks) > 0 && w.x.asks[len(w.x.asks)-1] >= here.first {
				w.x.asks = w.x.asks[:len(w.x.asks)-1]
				w.x.open--
			}
		}
	}
	s.places = s.places[:here.first]
	s.places[at].node = api.Node{Kind: api.PatAny}
	s.nodes -= here.node.Kids
}
