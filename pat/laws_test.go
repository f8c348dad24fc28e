package pat_test

import (
	"slices"
	"testing"

	"triglyph/api"
	"triglyph/pat"
)

// value tells a value of a type; nil if it comes to one that has none, or that is too deep.
func (s *source) value(t *plant, deep int) nodes {
	switch {
	case t.Text == "int":
		return vi(int64(s.below(4)))
	case t.Text == "text":
		return vt(pick(s, "", "a", "Nil"))
	case t.Kind == api.TypVar || t.Text == "->" || t.Text == "ref":
		return vf()
	}
	l := world()
	at := slices.IndexFunc(l, func(d api.Data) bool { return d.Name == t.Text })
	if at < 0 || deep == 0 {
		return nil
	}
	c := pick(s, l[at].Cons...)
	args, _ := modelArgs(l, t, c.Name)
	var kids []nodes
	for _, arg := range args {
		kid := s.value(arg, deep-1)
		if kid == nil {
			return nil
		}
		kids = append(kids, kid)
	}
	return vc(c.Name, kids...)
}

// P12.1: what has a type, and what has not, compared with the model. P12.2: likewise what matches.
func TestTypes(t *testing.T) {
	t.Parallel()
	s := source(4)
	patterns, values, matched := map[bool]int{}, map[bool]int{}, 0
	types := append(someTypes(), word(), v(0), fun(v(0), v(1)), con("Some", word()), list(v(3)), con("Odd", word(), v(0), number()), con("Other"))
	for range 40000 {
		typ, other := pick(&s, types...), pick(&s, types...)
		if s.below(2) == 0 {
			other = typ
		}
		p, x := s.pattern(other, 1+s.below(4)), s.value(grow(other), 4)
		if x == nil {
			x = vf()
		}
		// Something is put in that may be of another type.
		if s.below(3) == 0 {
			p[s.below(len(p))] = pick(&s, exact(1)[0], wild()[0], pc("Nil")[0], pc("True")[0])
			x[s.below(len(x))] = pick(&s, vi(1)[0], vf()[0], vc("Nil")[0], vt("a")[0])
		}
		if grow(p) == nil || grow(x) == nil {
			continue
		}
		fits, has := modelFits(world(), grow(typ), grow(p)), modelFits(world(), grow(typ), grow(x))
		patterns[fits]++
		values[has]++
		if e := pat.Check(world(), typ, p); (e == api.OK) != fits {
			t.Fatalf("%s of the type %s: %d", tell(p), tell(typ), e)
		}
		if pat.Has(world(), typ, x) != has {
			t.Fatalf("%s of the type %s: %t", tell(x), tell(typ), !has)
		}
		names, ok := pat.Match(p, x)
		want, is := modelMatch(grow(p), grow(x))
		same := func(a, b api.Named) bool { return a.Name == b.Name && slices.Equal(a.Value, b.Value) }
		if ok != is || is && !slices.EqualFunc(names, want, same) || !is && len(names) > 0 {
			t.Fatalf("%s and %s: %v, %t", tell(p), tell(x), names, ok)
		}
		if ok && len(names) > 1 {
			matched++
		}
	}
	if min(patterns[true], patterns[false], values[true], values[false]) < 5000 || matched < 500 {
		t.Errorf("%v patterns, %v values, %d of which are bound to some names", patterns, values, matched)
	}
}

// P12.4: what Missing returns is matched by none of the patterns, and if nothing is missing, every value of the type is
// matched. P12.3: no value is first matched by a pattern that is useless.
func TestLaws(t *testing.T) {
	t.Parallel()
	s := source(5)
	missed, all := 0, 0
	for range 4000 {
		typ := pick(&s, someTypes()...)
		var pats []nodes
		for range s.below(9) {
			pats = append(pats, s.pattern(typ, 1+s.below(3)))
		}
		p, is, e := pat.Missing(world(), typ, pats)
		useless, fault := pat.Useless(world(), typ, pats)
		if e != api.OK || fault != api.OK {
			t.Fatalf("%s of %s: %d, %d", tellAll(pats), tell(typ), e, fault)
		}
		if is && pat.First(pats, ground(p)) != -1 {
			t.Fatalf("%s of %s: %s is missing", tellAll(pats), tell(typ), tell(p))
		}
		for range 30 {
			x := s.value(grow(typ), 5)
			if x == nil {
				continue
			}
			if !pat.Has(world(), typ, x) {
				t.Fatalf("%s has not the type %s", tell(x), tell(typ))
			}
			at := pat.First(pats, x)
			if at < 0 && !is || slices.Contains(useless, at) {
				t.Fatalf("%s of %s: %t, %v, but the first that matches %s is %d", tellAll(pats), tell(typ), is, useless, tell(x), at)
			}
			if _, ok := pat.Match(p, x); is && ok {
				missed++
				if at >= 0 {
					t.Fatalf("%s of %s: %s is missing, but %d matches %s", tellAll(pats), tell(typ), tell(p), at, tell(x))
				}
			}
			if !is {
				all++
			}
		}
		// Without what is useless, the same values are matched; with what is missing, too, it is useful.
		var useful []nodes
		for i, p := range pats {
			if !slices.Contains(useless, i) {
				useful = append(useful, p)
			}
		}
		if got, _ := pat.Useless(world(), typ, useful); len(got) > 0 {
			t.Fatalf("%s of %s: %v are useless, too", tellAll(useful), tell(typ), got)
		}
		if _, still, _ := pat.Missing(world(), typ, useful); still != is {
			t.Fatalf("%s of %s: %t without what is useless", tellAll(pats), tell(typ), still)
		}
		if is {
			if got, _ := pat.Useless(world(), typ, append(useful, p, p)); !slices.Equal(got, []int{len(useful) + 1}) {
				t.Fatalf("%s of %s: what is missing is useless: %v", tellAll(pats), tell(typ), got)
			}
		}
	}
	if missed < 1000 || all < 1000 {
		t.Errorf("%d values are missing, %d are of patterns of which nothing is missing", missed, all)
	}
}
