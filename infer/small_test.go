package infer_test

import (
	"slices"
	"testing"

	"triglyph/api"
	"triglyph/infer"
)

// A part is an expression or a pattern, and how many nodes it has.
type part = nodes

// smalls are all expressions and patterns of few nodes, by their number.
type smalls struct{ exps, pats [][]part }

// product calls see for each list of parts of which the i-th is one of the i-th of these.
func product(see func(l []part), of ...[]part) {
	var add func(l []part)
	add = func(l []part) {
		if len(l) == len(of) {
			see(l)
			return
		}
		for _, p := range of[len(l)] {
			add(append(slices.Clone(l), p))
		}
	}
	add(nil)
}

// splits calls see for each way to write n as a sum of that many numbers from 1 on.
func splits(n, parts int, see func(l []int)) {
	var add func(l []int, left int)
	add = func(l []int, left int) {
		if len(l) == parts-1 {
			see(append(slices.Clone(l), left))
			return
		}
		for i := 1; i <= left-(parts-1-len(l)); i++ {
			add(append(slices.Clone(l), i), left-i)
		}
	}
	if n >= parts && parts > 0 {
		add(nil, n)
	}
}

// small returns all expressions of up to that many nodes with few names.
func small(most int) smalls {
	all := smalls{exps: [][]part{nil}, pats: [][]part{nil}}
	for n := 1; n <= most; n++ {
		all.pats = append(all.pats, all.patterns(n))
		all.exps = append(all.exps, all.expressions(n))
	}
	return all
}

// patterns returns the patterns of n nodes, if those of fewer nodes are there.
func (all smalls) patterns(n int) []part {
	if n == 1 {
		return []part{exp(api.PatAny, ""), exp(api.PatVar, "x"), exp(api.PatInt, ""), pat("Nil")}
	}
	var l []part
	splits(n-1, 2, func(s []int) {
		product(func(p []part) { l = append(l, pat("Cons", p...)) }, all.pats[s[0]], all.pats[s[1]])
	})
	return l
}

// expressions returns the expressions of n nodes, if those of fewer nodes are there.
func (all smalls) expressions(n int) []part {
	if n == 1 {
		return []part{one(), name("x"), name("f"), exp(api.ExpCon, "Nil"), exp(api.ExpCon, "Cons")}
	}
	var l []part
	for _, e := range all.exps[n-1] {
		l = append(l, fn("x", e), fn("f", e), raise(e))
	}
	splits(n-1, 2, func(s []int) {
		product(func(p []part) {
			l = append(l, app(p[0], p[1]), let("x", p[0], p[1]), let("f", p[0], p[1]), try("x", p[0], p[1]))
			if p[0][0].Kind == api.ExpFun {
				l = append(l, rec("f", p[0], p[1]))
			}
		}, all.exps[s[0]], all.exps[s[1]])
	})
	splits(n-1, 3, func(s []int) {
		product(func(p []part) { l = append(l, exp(api.ExpIf, "", p...)) }, all.exps[s[0]], all.exps[s[1]], all.exps[s[2]])
		product(func(p []part) { l = append(l, exp(api.ExpMatch, "", p...)) }, all.exps[s[0]], all.pats[s[1]], all.exps[s[2]])
	})
	splits(n-1, 5, func(s []int) {
		product(func(p []part) { l = append(l, exp(api.ExpMatch, "", p...)) }, all.exps[s[0]], all.pats[s[1]], all.exps[s[2]], all.pats[s[3]], all.exps[s[4]])
	})
	return l
}

// agreed returns what Infer returns, if the model returns the same.
func agreed(t *testing.T, env []api.Sig, l nodes) (nodes, api.Errno) {
	got, e := infer.Infer(env, l)
	if want, fault := modelInfer(env, l); e != fault || !slices.Equal(got, want) {
		t.Fatalf("%s: %d, not %d, %v, not %v", tell(l), e, fault, got, want)
	}
	return got, e
}

// P11.1, P11.2: all expressions of few nodes, compared with the model.
func TestSmall(t *testing.T) {
	t.Parallel()
	list := con("List", v(0))
	env := []api.Sig{sig("Nil", list), sig("Cons", fun(v(0), list, list)), sig("f", fun(v(0), v(0))), sig("x", con("ref", v(4)))}
	ends := map[api.Errno]int{}
	for n, l := range small(6).exps {
		for _, e := range l {
			if infer.Value(e) != modelValue(e) {
				t.Fatalf("Value of %s", tell(e))
			}
			envs := [][]api.Sig{env, env[:3], env[1:]}
			if n == 6 {
				envs = envs[:1]
			}
			for _, env := range envs {
				_, end := agreed(t, env, e)
				ends[end]++
			}
		}
	}
	if ends[api.OK] < 5000 || ends[api.ErrInferType] < 5000 || ends[api.ErrInferName] < 5000 {
		t.Errorf("these are how they end: %v", ends)
	}
}
