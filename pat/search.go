package pat

import (
	"cmp"
	"maps"
	"slices"

	"triglyph/api"
)

// A reason is a set of places: what is chosen at these alone leaves no values.
type reason map[int]struct{}

// A search looks for values that one pattern matches, and that no row matches. It chooses what is at one place after
// the other, until all rows are off.
type search struct {
	*known
	wanted []api.Node // the pattern that matches
	places []place    // at first those of the nodes of that pattern
	rows   []*row
	ready  []*row // the last rows of which one want at most was open
	nodes  int    // how many nodes the values have at least
	limit  int    // how deep places may be
	cut    bool   // whether one was too deep
}

// search returns the search for values of a pattern of the type t.
func (k *known) search(t int, wanted []api.Node, limit int) *search {
	s := &search{known: k, wanted: wanted, nodes: len(wanted), limit: limit}
	k.visit(t, wanted, func(t int) {
		s.places = append(s.places, place{t: t, node: wanted[len(s.places)], above: -1, deep: 1})
	})
	return s
}

// found reports whether there are values that none of these patterns matches.
func (s *search) found(pats [][]api.Node) bool {
	for _, p := range pats {
		if s.overlaps(p) && !s.add(p) {
			return false
		}
	}
	ok, _ := s.find()
	return ok
}

// find chooses what is left to be chosen, so that no row matches. If that cannot be, it returns false and the reason.
func (s *search) find() (bool, reason) {
	x := s.next()
	if x == nil {
		return true, nil
	}
	why := reason{}
	at := x.asks[slices.IndexFunc(x.asks, func(at int) bool { return wild(s.places[at].node) })]
	for _, n := range s.choices(at) {
		ok, because := s.choose(at, n)
		if ok {
			return true, nil
		}
		// Another choice here would change nothing.
		if _, matters := because[at]; !matters {
			return false, because
		}
		// The smaller set is added to the greater one, or else many choices would take long.
		if len(why) < len(because) {
			why, because = because, why
		}
		maps.Copy(why, because)
	}
	delete(why, at)
	return false, why
}

// next returns a row that is not off, with few open wants: the fewer they are, the fewer ways there are to keep it from
// matching. It returns nil if all are off.
func (s *search) next() *row {
	for len(s.ready) > 0 {
		last := len(s.ready) - 1
		x := s.ready[last]
		s.ready = s.ready[:last]
		if x.off < 0 && x.open <= 1 {
			return x
		}
	}
	var least *row
	for _, x := range s.rows {
		if x.off < 0 && (least == nil || x.open < least.open) {
			least = x
		}
	}
	return least
}

// set returns the set of these places.
func set(places []int) reason {
	all := reason{}
	for _, at := range places {
		all[at] = struct{}{}
	}
	return all
}

// choices returns what may be chosen at a place. Of what no row asks, one is enough, the one with the fewest arguments;
// it comes first, as all rows that ask something there are off then.
func (s *search) choices(at int) []api.Node {
	asked := map[api.Node]struct{}{}
	for _, w := range s.places[at].wants {
		if w.x.off < 0 {
			asked[w.p[0]] = struct{}{}
		}
	}
	free := func(n api.Node) bool {
		_, ok := asked[n]
		return !ok
	}
	if s.types[s.places[at].t][0].Text == "int" {
		n := api.Node{Kind: api.PatInt}
		for !free(n) {
			n.Num++
		}
		return []api.Node{n}
	}
	all := s.constructors(s.places[at].t)
	if i := slices.IndexFunc(all, free); i >= 0 {
		one := all[i]
		all = slices.Insert(slices.DeleteFunc(all, free), 0, one)
	}
	return all
}

// constructors returns the roots of the patterns of the constructors of a declared type, those with fewer arguments
// first.
func (s *search) constructors(t int) []api.Node {
	name := s.types[t][0].Text
	i := slices.IndexFunc(s.l, func(d api.Data) bool { return d.Name == name })
	var all []api.Node
	for _, c := range s.l[i].Cons {
		all = append(all, api.Node{Kind: api.PatCon, Text: c.Name, Kids: len(c.Args)})
	}
	slices.SortStableFunc(all, func(a, b api.Node) int { return cmp.Compare(a.Kids, b.Kids) })
	return all
}

// choose chooses n at a place, and then what is left. If that cannot be, it takes n back, and returns false and the
// reason.
func (s *search) choose(at int, n api.Node) (bool, reason) {
	if s.nodes+n.Kids > api.MaxNodes {
		return false, s.big(at)
	}
	if n.Kids > 0 && s.places[at].deep == s.limit {
		s.cut = true
		return false, s.path(at)
	}
	s.put(at, n)
	ready := len(s.ready)
	var ok bool
	var why reason
	if x := s.answer(at); x != nil {
		why = set(x.asks)
	} else {
		ok, why = s.find()
	}
	if !ok {
		s.takeBack(at)
		s.ready = s.ready[:min(ready, len(s.ready))]
	}
	return ok, why
}

// big returns why one more choice, at this place, makes too many nodes: all that have arguments, this one included.
func (s *search) big(at int) reason {
	why := reason{at: {}}
	for i, x := range s.places {
		if x.node.Kids > 0 {
			why[i] = struct{}{}
		}
	}
	return why
}

// path returns why arguments of this place are too deep: it, and all that it is in.
func (s *search) path(at int) reason {
	why := reason{}
	for ; at >= 0; at = s.places[at].above {
		why[at] = struct{}{}
	}
	return why
}

// pattern returns the pattern of what was chosen at a place and below it.
func (s *search) pattern(at int) []api.Node {
	x := s.places[at]
	p := []api.Node{x.node}
	for i := range x.node.Kids {
		p = append(p, s.pattern(x.first+i)...)
	}
	return p
}
