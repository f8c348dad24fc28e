package fix_test

import (
	"math"
	"slices"
	"strconv"
	"strings"
	"testing"

	"triglyph/api"
	"triglyph/fix"
)

// common are fixities of every Side, not sorted by Op.
var common = []api.Fix{left("+", 6), left("*", 7), right("::", 5), none("<", 4), left("@", 5), none("!", 5)}

// Fixities by Side.
func left(op string, level int) api.Fix  { return api.Fix{Op: op, Level: level, Side: -1} }
func none(op string, level int) api.Fix  { return api.Fix{Op: op, Level: level} }
func right(op string, level int) api.Fix { return api.Fix{Op: op, Level: level, Side: 1} }

// opOf returns an operator for each number below 1000, another one for another number, in byte order.
func opOf(n int) string {
	const signs = "!$%&*+-/:<"
	return string([]byte{'>', signs[n/100%10], signs[n/10%10], signs[n%10]})
}

// many are n fixities of n operators.
func many(n int) []api.Fix {
	l := make([]api.Fix, n)
	for i := range l {
		l[i] = api.Fix{Op: opOf(i), Level: i % 10, Side: i%3 - 1}
	}
	return l
}

// valid are valid fixities.
func valid() []api.Fix {
	l := slices.Clone(common)
	for _, op := range []string{"!", "$", "%", "&", "*", "+", "-", "/", ":", "<", ">", "?", "@", "^", "==", "=>", "->>", "<-", "||", "|>", "!$%&*+-/:<=>?@^|", strings.Repeat("+", 300)} {
		for level := range 10 {
			l = append(l, left(op, level), none(op, level), right(op, level))
		}
	}
	return l
}

// invalid are fixities that are not valid, each with one fault.
func invalid() []api.Fix {
	l := []api.Fix{
		{}, left("+", -1), left("+", 10), right("+", math.MaxInt), right("+", math.MinInt), none("+", 256), none("+", 1<<32),
		{Op: "+", Side: 2}, {Op: "+", Side: -2}, {Op: "+", Side: math.MaxInt}, {Op: "+", Side: math.MinInt}, {Op: "+", Side: 255}, {Op: "+", Side: 1 << 32},
	}
	for _, op := range []string{"", "->", "=", "|", "a", "A", "let", "1", "~", "~1", "_", "(", ")", "(+)", ";", ";;", "#", "+#", "+ ", " +", "+ +", "+\n", "+a", "a+", "\"+\"", "+é", "×", "+\x00", "+\xff", ",", ".", "'", "`"} {
		l = append(l, left(op, 6))
	}
	return l
}

func TestRight(t *testing.T) {
	for _, f := range valid() {
		if !fix.Right(f) {
			t.Errorf("Right(%+v) is false", f)
		}
	}
	for _, f := range invalid() {
		if fix.Right(f) {
			t.Errorf("Right(%+v) is true", f)
		}
	}
	for b := range 256 {
		s := string([]byte{byte(b)})
		sign := strings.Contains("!$%&*+-/:<=>?@^|", s)
		if got := fix.Right(none(s, 0)); got != (sign && s != "=" && s != "|") {
			t.Errorf("Right of the operator %q is %v", s, got)
		}
		if got := fix.Right(none("+"+s, 0)); got != sign {
			t.Errorf("Right of the operator %q is %v", "+"+s, got)
		}
	}
}

// faulty are lists with which Check finds fault, and the error that it returns.
func faulty() map[string]struct {
	l []api.Fix
	e api.Errno
} {
	type list = struct {
		l []api.Fix
		e api.Errno
	}
	with := func(l []api.Fix, more ...api.Fix) []api.Fix { return slices.Concat(l, more) }
	most, tooMany := many(api.MaxOps), many(api.MaxOps+1)
	last, beforeLast := slices.Clone(most), slices.Clone(most)
	last[399], beforeLast[398] = most[0], most[399]
	lists := map[string]list{
		"twice the same":                {[]api.Fix{left("+", 6), left("+", 6)}, api.ErrFixTwice},
		"twice, another Level":          {[]api.Fix{left("+", 6), left("+", 7)}, api.ErrFixTwice},
		"twice, another Side":           {[]api.Fix{left("+", 6), right("+", 6)}, api.ErrFixTwice},
		"twice, others between":         {with(common, left("+", 1)), api.ErrFixTwice},
		"thrice":                        {[]api.Fix{none("*", 0), none("*", 0), none("*", 0)}, api.ErrFixTwice},
		"first and last of the most":    {last, api.ErrFixTwice},
		"the last two of the most":      {beforeLast, api.ErrFixTwice},
		"too many":                      {tooMany, api.ErrFixForm},
		"too many, twice the same":      {with(most, most[0]), api.ErrFixForm},
		"too many, not valid":           {make([]api.Fix, 401), api.ErrFixForm},
		"many too many":                 {make([]api.Fix, 1<<16), api.ErrFixForm},
		"twice, and one is not valid":   {[]api.Fix{left("+", 6), left("+", 10)}, api.ErrFixForm},
		"twice, then one not valid":     {[]api.Fix{left("+", 6), left("+", 6), {}}, api.ErrFixForm},
		"one not valid, then twice":     {[]api.Fix{{}, left("+", 6), left("+", 6)}, api.ErrFixForm},
		"twice not valid":               {[]api.Fix{{}, {}}, api.ErrFixForm},
		"the last of the most is wrong": {with(most[:399], api.Fix{}), api.ErrFixForm},
	}
	for i, f := range invalid() {
		lists["invalid, first "+strconv.Itoa(i)] = list{with([]api.Fix{f}, left("**", 1)), api.ErrFixForm}
		lists["invalid, last "+strconv.Itoa(i)] = list{with(many(9), f), api.ErrFixForm}
	}
	return lists
}

func TestCheck(t *testing.T) {
	for _, l := range [][]api.Fix{nil, {}, common, many(api.MaxOps), {left("+", 6), left("++", 6), left("+-", 6)}, {left(">", 0), left("*", 0), left("<", 0)}} {
		if e := fix.Check(l); e != api.OK {
			t.Errorf("Check(%+v) = %d", l, e)
		}
	}
	for _, f := range valid() {
		if e := fix.Check([]api.Fix{f}); e != api.OK {
			t.Errorf("Check of %+v = %d", f, e)
		}
	}
	for what, x := range faulty() {
		if e := fix.Check(x.l); e != x.e {
			t.Errorf("Check, %s: %d", what, e)
		}
	}
}

func TestFind(t *testing.T) {
	for _, l := range [][]api.Fix{common, many(api.MaxOps)} {
		for _, f := range l {
			if got, ok := fix.Find(l, f.Op); got != f || !ok {
				t.Errorf("Find of %q = %+v, %v", f.Op, got, ok)
			}
		}
	}
	// Find does not ask whether a list is valid: the first fixity with that Op counts, whatever it is.
	odd := []api.Fix{left("-", 1), left("+", 1), right("+", 2), {}, {Op: "a", Level: 77, Side: -5}, none("", 3)}
	for _, x := range []struct {
		l    []api.Fix
		op   string
		want api.Fix
		ok   bool
	}{
		{odd, "+", odd[1], true}, {odd, "", api.Fix{}, true}, {odd, "a", odd[4], true}, {odd[4:], "", odd[5], true}, {many(1000), opOf(999), many(1000)[999], true},
		{nil, "+", api.Fix{}, false}, {nil, "", api.Fix{}, false}, {common, "", api.Fix{}, false}, {common, ">", api.Fix{}, false}, {common, ":", api.Fix{}, false}, {common, ":::", api.Fix{}, false}, {common, "+ ", api.Fix{}, false},
	} {
		if got, ok := fix.Find(x.l, x.op); got != x.want || ok != x.ok {
			t.Errorf("Find(%.3v, %q) = %+v, %v", x.l, x.op, got, ok)
		}
	}
}

func TestSet(t *testing.T) {
	most := many(api.MaxOps)
	changed := slices.Clone(most)
	changed[123].Level, changed[123].Side = 9-changed[123].Level, 1
	backward := slices.Clone(most)
	slices.Reverse(backward)
	for _, x := range []struct {
		what string
		l    []api.Fix
		f    api.Fix
		want []api.Fix
	}{
		{"into nothing", nil, left("+", 6), []api.Fix{left("+", 6)}},
		{"into an empty list", []api.Fix{}, none("+", 0), []api.Fix{none("+", 0)}},
		{"first", []api.Fix{none("+", 1), none("-", 2)}, none("*", 3), []api.Fix{none("*", 3), none("+", 1), none("-", 2)}},
		{"between", []api.Fix{none("-", 2), none("*", 3)}, none("+", 1), []api.Fix{none("*", 3), none("+", 1), none("-", 2)}},
		{"last", []api.Fix{none("+", 1), none("*", 3)}, none("-", 2), []api.Fix{none("*", 3), none("+", 1), none("-", 2)}},
		{"beside an Op that it begins", []api.Fix{none("++", 1)}, none("+", 2), []api.Fix{none("+", 2), none("++", 1)}},
		{"another Level", []api.Fix{left("-", 1), left("+", 2)}, left("+", 3), []api.Fix{left("+", 3), left("-", 1)}},
		{"another Side", []api.Fix{left("-", 1), left("+", 2)}, right("-", 1), []api.Fix{left("+", 2), right("-", 1)}},
		{"the same", []api.Fix{left("-", 1), left("+", 2)}, left("-", 1), []api.Fix{left("+", 2), left("-", 1)}},
		{"instead of the only one", []api.Fix{left("-", 1)}, right("-", 2), []api.Fix{right("-", 2)}},
		{"by bytes, not by levels", common, none("^", 0), []api.Fix{none("!", 5), left("*", 7), left("+", 6), right("::", 5), none("<", 4), left("@", 5), none("^", 0)}},
		{"the last that there is room for", most[:399], most[399], most},
		{"the first that there is room for", backward[:399], most[0], most},
		{"instead of one of the most", most, changed[123], changed},
	} {
		got, e := fix.Set(x.l, x.f)
		if !slices.Equal(got, x.want) || e != api.OK {
			t.Errorf("Set, %s: %+v, %d", x.what, got, e)
		}
	}
}

func TestSetErrors(t *testing.T) {
	most := many(api.MaxOps)
	if got, e := fix.Set(most, left("^", 1)); got != nil || e != api.ErrFixForm {
		t.Errorf("Set, one too many: %d fixities, %d", len(got), e)
	}
	for _, f := range invalid() {
		for _, l := range [][]api.Fix{nil, common, most} {
			if got, e := fix.Set(l, f); got != nil || e != api.ErrFixForm {
				t.Errorf("Set of %+v: %+v, %d", f, got, e)
			}
		}
	}
	for what, x := range faulty() {
		for _, f := range []api.Fix{left("+", 6), left("^", 1), {}, most[0]} {
			if got, e := fix.Set(x.l, f); got != nil || e != x.e {
				t.Errorf("Set of %+v, %s: %+v, %d", f, what, got, e)
			}
		}
	}
}

// row is how the chain of n operators binds that are all left-associative, or all right-associative.
func row(n, side int) []int {
	var l []int
	if side < 0 {
		for k := n - 1; k >= 0; k-- {
			l = append(l, k)
		}
		for k := range n + 1 {
			l = append(l, -1-k)
		}
		return l
	}
	for k := range n {
		l = append(l, k, -1-k)
	}
	return append(l, -1-n)
}

func TestClimb(t *testing.T) {
	for _, x := range []struct {
		ops  string
		want []int
	}{
		{"+ * +", []int{2, 0, -1, 1, -2, -3, -4}},
		{"", []int{-1}},
		{"+", []int{0, -1, -2}}, {"<", []int{0, -1, -2}}, {"::", []int{0, -1, -2}}, {"!", []int{0, -1, -2}},
		{"+ *", []int{0, -1, 1, -2, -3}}, {"* +", []int{1, 0, -1, -2, -3}},
		{"+ +", []int{1, 0, -1, -2, -3}}, {":: ::", []int{0, -1, 1, -2, -3}},
		{"+ + +", []int{2, 1, 0, -1, -2, -3, -4}}, {":: :: ::", []int{0, -1, 1, -2, 2, -3, -4}},
		{"+ < +", []int{1, 0, -1, -2, 2, -3, -4}},
		{"! < !", []int{1, 0, -1, -2, 2, -3, -4}}, {":: < @", []int{1, 0, -1, -2, 2, -3, -4}},
		{":: + :: *", []int{0, -1, 2, 1, -2, -3, 3, -4, -5}},
		{"* + * + *", []int{3, 1, 0, -1, -2, 2, -3, -4, 4, -5, -6}},
	} {
		if got, e := fix.Climb(common, strings.Fields(x.ops)); !slices.Equal(got, x.want) || e != api.OK {
			t.Errorf("Climb of %q = %v, %d", x.ops, got, e)
		}
	}
}

func TestClimbErrors(t *testing.T) {
	clash := func(s string) []string { return strings.Fields(s) }
	most := slices.Repeat([]string{"+"}, api.MaxOps)
	for _, x := range []struct {
		what string
		ops  []string
		e    api.Errno
	}{
		{"not associative", clash("< <"), api.ErrFixClash},
		{"not associative, others between", clash("< + <"), api.ErrFixClash},
		{"not associative, thrice", clash("! ! !"), api.ErrFixClash},
		{"left and right", clash("@ ::"), api.ErrFixClash},
		{"right and left", clash(":: @"), api.ErrFixClash},
		{"right and left, others between", clash(":: + @"), api.ErrFixClash},
		{"left and not", clash("@ !"), api.ErrFixClash},
		{"not and left", clash("! @"), api.ErrFixClash},
		{"right and not", clash(":: !"), api.ErrFixClash},
		{"not and right", clash("! ::"), api.ErrFixClash},
		{"left, left and right", clash("@ @ ::"), api.ErrFixClash},
		{"right, left and right", clash(":: @ ::"), api.ErrFixClash},
		{"only in the left part", clash("! ! < +"), api.ErrFixClash},
		{"only in the right part", clash("+ < ! !"), api.ErrFixClash},
		{"only in the right part of the left one", clash("@ :: < @ @"), api.ErrFixClash},
		{"only at the end of a long row", append(slices.Clone(most[:398]), "<", "<"), api.ErrFixClash},
		{"an unknown one", clash("%"), api.ErrFixNone},
		{"an unknown one at the end", clash("+ + %"), api.ErrFixNone},
		{"an unknown one after a clash", clash("< < %"), api.ErrFixNone},
		{"an empty one", []string{""}, api.ErrFixNone},
		{"no operator", clash("a"), api.ErrFixNone},
		{"a part of one", clash(":"), api.ErrFixNone},
		{"400 unknown ones", make([]string, 400), api.ErrFixNone},
		{"too many", append(slices.Clone(most), "+"), api.ErrFixForm},
		{"too many clashing", slices.Repeat([]string{"<"}, 401), api.ErrFixForm},
		{"too many unknown", make([]string, 401), api.ErrFixForm},
		{"many too many", make([]string, 1<<16), api.ErrFixForm},
	} {
		if got, e := fix.Climb(common, x.ops); got != nil || e != x.e {
			t.Errorf("Climb, %s: %v, %d", x.what, got, e)
		}
	}
	for what, x := range faulty() {
		for _, ops := range [][]string{nil, {"+"}, {"?"}, {"<", "<"}, make([]string, 401)} {
			if got, e := fix.Climb(x.l, ops); got != nil || e != x.e {
				t.Errorf("Climb of %.5v, %s: %v, %d", ops, what, got, e)
			}
		}
	}
}

// TestClimbMost takes sequences of as many operators as there may be.
func TestClimbMost(t *testing.T) {
	for _, side := range []int{-1, 1} {
		l := many(api.MaxOps)
		for i := range l {
			l[i].Level, l[i].Side = 3, side
		}
		var ops []string
		for _, f := range l {
			ops = append(ops, f.Op)
		}
		for _, ops := range [][]string{ops, slices.Repeat(ops[399:], 400)} {
			if got, e := fix.Climb(l, ops); !slices.Equal(got, row(400, side)) || e != api.OK {
				t.Errorf("Climb of 400 operators of Side %d: %v, %d", side, got, e)
			}
		}
	}
	levels := make([]api.Fix, 10)
	for i := range levels {
		levels[i] = right(opOf(i), i)
	}
	var ops []string
	for i := range api.MaxOps {
		ops = append(ops, opOf(i*7%10))
	}
	got, e := fix.Climb(levels, ops)
	if flat, ok := fix.Flat(got); e != api.OK || !ok || !slices.Equal(flat, inOrder(400)) {
		t.Errorf("Climb of 400 operators of ten Levels: %v, %d", got, e)
	}
}

// inOrder is the Flat of a structure of n operators.
func inOrder(n int) []int {
	l := []int{-1}
	for k := range n {
		l = append(l, k, -2-k)
	}
	return l
}

// trees are the structures of the operators with the indexes from first to before end.
func trees(first, end int) [][]int {
	if first == end {
		return [][]int{{-1 - first}}
	}
	var all [][]int
	for at := first; at < end; at++ {
		for _, a := range trees(first, at) {
			for _, b := range trees(at+1, end) {
				all = append(all, slices.Concat([]int{at}, a, b))
			}
		}
	}
	return all
}

// looser tells whether, of operators with the indexes a and b, a may be the root of a part in which b is, too.
func looser(fixes []api.Fix, a, b int) bool {
	f, g := fixes[a], fixes[b]
	return f.Level < g.Level || f.Level == g.Level && f.Side == g.Side && (f.Side == -1 && a > b || f.Side == 1 && a < b)
}

// fits tells whether each operator of a structure is looser than all that are in its parts; it also returns how many numbers the structure has.
func fits(l []int, fixes []api.Fix) (int, bool) {
	if l[0] < 0 {
		return 1, true
	}
	n, ok := fits(l[1:], fixes)
	m, okToo := fits(l[1+n:], fixes)
	for _, b := range l[1 : 1+n+m] {
		ok = ok && (b < 0 || looser(fixes, l[0], b))
	}
	return 1 + n + m, ok && okToo
}

// TestClimbShortSequences compares Climb of all sequences of up to five operators, of every Side and of three Levels, with the only structure that fits, if there is one.
func TestClimbShortSequences(t *testing.T) {
	var l []api.Fix
	for i := range 9 {
		l = append(l, api.Fix{Op: opOf(i), Level: []int{0, 5, 9}[i/3], Side: i%3 - 1})
	}
	var try func(ops []string, fixes []api.Fix, left int)
	try = func(ops []string, fixes []api.Fix, left int) {
		var want []int
		wantE := api.ErrFixClash
		for _, tree := range trees(0, len(ops)) {
			if _, ok := fits(tree, fixes); ok {
				want, wantE = tree, api.OK
			}
		}
		got, e := fix.Climb(l, ops)
		if !slices.Equal(got, want) || e != wantE {
			t.Fatalf("Climb of %v = %v, %d; not %v, %d", fixes, got, e, want, wantE)
		}
		if flat, ok := fix.Flat(got); e == api.OK && (!ok || !slices.Equal(flat, inOrder(len(ops)))) {
			t.Fatalf("Flat of %v = %v, %v", got, flat, ok)
		}
		for _, f := range l {
			if left > 0 {
				try(append(ops, f.Op), append(fixes, f), left-1)
			}
		}
	}
	try(nil, nil, 4)
	// A fifth operator, with fewer fixities.
	l = []api.Fix{l[0], l[2], l[3], l[4], l[5], l[8]}
	try(nil, nil, 5)
}

func TestFlat(t *testing.T) {
	for _, x := range []struct{ l, want []int }{
		{[]int{-1}, []int{-1}}, {[]int{-5}, []int{-5}}, {[]int{math.MinInt}, []int{math.MinInt}},
		{[]int{2, 0, -1, 1, -2, -3, -4}, []int{-1, 0, -2, 1, -3, 2, -4}},
		{[]int{0, -1, -2}, []int{-1, 0, -2}}, {[]int{3, -1, -2}, []int{-1, 3, -2}},
		{[]int{0, -1, 1, -2, -3}, []int{-1, 0, -2, 1, -3}}, {[]int{1, 0, -1, -2, -3}, []int{-1, 0, -2, 1, -3}},
		// What the numbers are does not count, only which of them have children.
		{[]int{7, -9, 7, -9, -9}, []int{-9, 7, -9, 7, -9}}, {[]int{math.MaxInt, math.MinInt, -1}, []int{math.MinInt, math.MaxInt, -1}},
	} {
		if got, ok := fix.Flat(x.l); !slices.Equal(got, x.want) || !ok {
			t.Errorf("Flat(%v) = %v, %v", x.l, got, ok)
		}
	}
	for _, l := range [][]int{nil, {}, {0}, {math.MaxInt}, {0, -1}, {-1, -2}, {-1, 0}, {-1, 0, -2}, {0, -1, -2, -3}, {0, -1, -2, 0}, {0, 1, -1, -2}, {0, -1, 1, -2}, {0, -1, -2, 1, -3, -4}} {
		if got, ok := fix.Flat(l); got != nil || ok {
			t.Errorf("Flat(%v) = %v, %v", l, got, ok)
		}
	}
}

// modelFlat is the Flat of the structure at the beginning of l, and how many numbers that has: 0 if there is none.
func modelFlat(l []int) ([]int, int) {
	switch {
	case len(l) == 0:
		return nil, 0
	case l[0] < 0:
		return l[:1], 1
	}
	a, n := modelFlat(l[1:])
	if n == 0 {
		return nil, 0
	}
	b, m := modelFlat(l[1+n:])
	if m == 0 {
		return nil, 0
	}
	return slices.Concat(a, l[:1], b), 1 + n + m
}

// TestFlatShortLists compares Flat of all lists of up to seven of a few numbers with the model.
func TestFlatShortLists(t *testing.T) {
	var try func(l []int, left int)
	try = func(l []int, left int) {
		want, n := modelFlat(l)
		if n != len(l) || n == 0 {
			want = nil
		}
		if got, ok := fix.Flat(l); !slices.Equal(got, want) || ok != (want != nil) {
			t.Fatalf("Flat(%v) = %v, %v; not %v", l, got, ok, want)
		}
		if left > 0 {
			for _, n := range []int{0, 1, -1, -2} {
				try(append(l, n), left-1)
			}
		}
	}
	try(nil, 7)
}

// TestFlatGreatLists takes lists that would need too much time or too deep a stack if that grew faster than the list.
func TestFlatGreatLists(t *testing.T) {
	const n = 1 << 20
	for _, side := range []int{-1, 1} {
		l := row(n, side)
		if got, ok := fix.Flat(l); !ok || !slices.Equal(got, inOrder(n)) {
			t.Errorf("Flat of %d operators of Side %d: %v", n, side, ok)
		}
		if got, ok := fix.Flat(l[:len(l)-1]); got != nil || ok {
			t.Errorf("Flat of a structure without its last operand, of Side %d", side)
		}
		if got, ok := fix.Flat(append(l, -1)); got != nil || ok {
			t.Errorf("Flat of a structure with an operand too many, of Side %d", side)
		}
	}
	if got, ok := fix.Flat(make([]int, n)); got != nil || ok {
		t.Error("Flat of operators alone")
	}
}

func TestArgumentsStay(t *testing.T) {
	// Not made from common: had a call sorted its argument, common would be in order by now.
	l := []api.Fix{left("+", 6), left("*", 7), right("@", 5), none("<", 4), none("?", 1), none("!", 1)}
	ops := []string{"*", "+", "*", "beyond"}
	structure := []int{0, -1, -2, 99}
	keptL, keptOps, keptStructure := slices.Clone(l), slices.Clone(ops), slices.Clone(structure)
	shorter := l[:4] // the rest is unused capacity
	if e := fix.Check(shorter); e != api.OK {
		t.Error("Check", e)
	}
	for _, f := range []api.Fix{left("^", 1), right("+", 1), l[0]} {
		if _, e := fix.Set(shorter, f); e != api.OK {
			t.Error("Set", e)
		}
	}
	if _, e := fix.Climb(shorter, ops[:3]); e != api.OK {
		t.Error("Climb", e)
	}
	if _, ok := fix.Flat(structure[:3]); !ok {
		t.Error("Flat")
	}
	if !slices.Equal(l, keptL) || !slices.Equal(ops, keptOps) || !slices.Equal(structure, keptStructure) {
		t.Error("an argument has changed", l, ops, structure)
	}
}

func TestResultsAreNew(t *testing.T) {
	l := []api.Fix{left("*", 7), left("+", 6)}
	set, _ := fix.Set(l, l[1])
	clear(set[:cap(set)])
	if l[0] != left("*", 7) || l[1] != left("+", 6) {
		t.Error("Set's result shares memory with its argument", l)
	}
	structure := []int{-1}
	flat, _ := fix.Flat(structure)
	clear(flat[:cap(flat)])
	if structure[0] != -1 {
		t.Error("Flat's result shares memory with its argument", structure)
	}
	first, _ := fix.Climb(l, []string{"+", "*"})
	clear(first[:cap(first)])
	if second, _ := fix.Climb(l, []string{"+", "*"}); !slices.Equal(second, []int{0, -1, 1, -2, -3}) {
		t.Error("a later result is", second)
	}
}
