package infer

import (
	"slices"

	"triglyph/api"
)

// A scheme is the type of a name. Its general variables stand for any type.
type scheme struct {
	body    []api.Node
	general []int
}

// A local is a name that the expression itself binds. What is known of its type, which its body stands for, is kept as
// numbers: many locals may have a great type, and resolving all of them again and again would take long.
type local struct {
	name string
	scheme
	size   int         // how many nodes the type has, as far as it has been brought up to date
	occurs map[int]int // how often each variable that is not general is in that type
}

// A scope holds the names that are bound at one place of an expression, those included that others hide.
type scope struct {
	locals []local     // the innermost one last
	free   map[int]int // in how many locals each variable occurs, if it occurs in one
}

// search returns the innermost local for which found holds, or nil if there is none.
func (s *scope) search(found func(x *local) bool) *local {
	for i := range slices.Backward(s.locals) {
		if x := &s.locals[i]; found(x) {
			return x
		}
	}
	return nil
}

// enter returns a function that unbinds all names that are bound from now on.
func (s *scope) enter() (leave func()) {
	outer := len(s.locals)
	return func() {
		for i := range s.locals[outer:] {
			x := &s.locals[outer+i]
			for v := range x.occurs {
				s.drop(x, v)
			}
		}
		s.locals = s.locals[:outer]
	}
}

// bind binds a name to a type.
func (s *scope) bind(name string, t scheme) {
	x := local{name: name, scheme: t, size: len(t.body), occurs: map[int]int{}}
	s.add(&x, t.body, 1)
	for _, v := range t.general {
		s.drop(&x, v)
	}
	s.locals = append(s.locals, x)
}

// add notes that the variables of the type t are that often in the type of x.
func (s *scope) add(x *local, t []api.Node, times int) {
	for _, n := range t {
		if n.Kind != api.TypVar {
			continue
		}
		v := int(n.Num)
		if x.occurs[v] == 0 {
			s.free[v]++
		}
		x.occurs[v] += times
	}
}

// drop notes that a variable that is in the type of x is not in it any more.
func (s *scope) drop(x *local, v int) {
	delete(x.occurs, v)
	s.free[v]--
	if s.free[v] == 0 {
		delete(s.free, v)
	}
}

// replace replaces a variable by the type t, of which no variable is replaced itself, in the type of x.
func (s *scope) replace(x *local, v int, t []api.Node) {
	times := x.occurs[v]
	if times == 0 {
		return
	}
	s.drop(x, v)
	s.add(x, t, times)
	x.size += times * (len(t) - 1)
}
