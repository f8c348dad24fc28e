package infer

import (
	"slices"
)

// A local is a name that the expression itself binds, with its type.
type local struct {
	name string
	is   *term
}

// A scope holds the names that are bound at one place of an expression, the innermost one last. Those that others hide
// are there, too: their types count when a type is generalized.
type scope struct{ locals []local }

// search returns the innermost local for which found holds, if there is one.
func (s *scope) search(found func(x local) bool) (local, bool) {
	for _, x := range slices.Backward(s.locals) {
		if found(x) {
			return x, true
		}
	}
	return local{}, false
}

// enter returns a function that unbinds all names that are bound from now on.
func (s *scope) enter() (leave func()) {
	outer := len(s.locals)
	return func() { s.locals = s.locals[:outer] }
}

// bind binds a name to a type.
func (s *scope) bind(name string, is *term) { s.locals = append(s.locals, local{name, is}) }
