package tree_test

import (
	"math"
	"slices"
	"testing"

	"triglyph/api"
	"triglyph/tree"
)

// nodes returns a list of nodes with these Kids; each node has fields of its own, so that no two are equal.
func nodes(kids ...int) []api.Node {
	var l []api.Node
	for at, n := range kids {
		l = append(l, api.Node{Kind: api.Kind(at + 1), Text: string(rune('a' + at%26)), Num: int64(100 + at), Kids: n})
	}
	return l
}

// example is a tree whose nodes are at all kinds of places: an only kid, a first and a last one, with and without kids.
//
//	0 -> 1, 2, 6    2 -> 3, 4    4 -> 5    6 -> 7, 8
func example() []api.Node { return nodes(3, 0, 2, 0, 1, 0, 2, 0, 0) }

// chain returns a tree of n nodes, each of which but the last has one kid.
func chain(n int) []api.Node {
	l := make([]api.Node, n)
	for at := range n - 1 {
		l[at].Kids = 1
	}
	return l
}

// fan returns a tree of n nodes, all of which are kids of the first.
func fan(n int) []api.Node {
	l := make([]api.Node, n)
	l[0].Kids = n - 1
	return l
}

// noTrees are lists that are not exactly one tree.
func noTrees() map[string][]api.Node {
	most := math.MaxInt
	return map[string][]api.Node{
		"nil":                               nil,
		"empty":                             {},
		"a kid too few":                     nodes(1),
		"a kid of a kid too few":            nodes(2, 0, 1),
		"all but the last kid":              nodes(3, 0, 2, 0, 1, 0),
		"a node too many":                   nodes(0, 0),
		"two trees":                         nodes(2, 0, 0, 1, 0),
		"a negative root":                   nodes(-1),
		"a negative root before a tree":     nodes(-1, 0),
		"a negative kid":                    nodes(2, -1, 0),
		"a negative last kid":               nodes(1, -1),
		"negative kids that add up":         nodes(3, -1, 0),
		"the least Kids":                    nodes(math.MinInt),
		"the least Kids of a kid":           nodes(1, math.MinInt, 0),
		"great Kids":                        nodes(1 << 40),
		"the greatest Kids":                 nodes(most, 0, 0),
		"the greatest Kids twice":           nodes(most, most, 0, 0),
		"the greatest Kids thrice":          nodes(most, most, most, 0),
		"Kids whose sum wraps round to 0":   nodes(most, most, 2, 0),
		"Kids whose sum wraps round":        nodes(1<<62, 1<<62, 1<<62, 1<<62, 4),
		"Kids whose sum wraps round to one": nodes(1, 1<<62, 1<<62, 1<<62, 1<<62, 4, 0),
	}
}

// kidLists are all lists of up to most Kids, each of which is one of those that are tried.
func kidLists(most int) [][]int {
	tried := []int{-1, 0, 1, 2, 3, math.MaxInt}
	all, last := [][]int{{}}, [][]int{{}}
	for range most {
		var next [][]int
		for _, l := range last {
			for _, n := range tried {
				next = append(next, append(slices.Clone(l), n))
			}
		}
		all, last = append(all, next...), next
	}
	return all
}

// model is what the document says of a subtree, word by word: it is a root and as many trees behind it as the root has Kids.
type model struct {
	begin, end int
	kids       []model
}

// build returns the subtree at an index, and whether there is one.
func build(l []api.Node, at int) (model, bool) {
	if at < 0 || at >= len(l) || l[at].Kids < 0 {
		return model{}, false
	}
	m := model{begin: at, end: at + 1}
	for range l[at].Kids {
		kid, ok := build(l, m.end)
		if !ok {
			return model{}, false
		}
		m.kids, m.end = append(m.kids, kid), kid.end
	}
	return m, true
}

func (m model) deep() int {
	deep := 0
	for _, kid := range m.kids {
		deep = max(deep, kid.deep())
	}
	return deep + 1
}

// up returns the parent of the node at an index, or -1.
func (m model) up(at int) int {
	for _, kid := range m.kids {
		if kid.begin == at {
			return m.begin
		}
		if up := kid.up(at); up >= 0 {
			return up
		}
	}
	return -1
}

// P2.1: the index after each subtree.
func TestEnd(t *testing.T) {
	for at, want := range []int{9, 2, 6, 4, 6, 6, 9, 8, 9} {
		if got := tree.End(example(), at); got != want {
			t.Errorf("End at %d = %d, want %d", at, got, want)
		}
	}
	// What stands before and after a subtree does not matter, whether it is a tree or not.
	for _, x := range []struct {
		kids     []int
		at, want int
	}{
		{[]int{0, 0}, 0, 1},
		{[]int{0, 0}, 1, 2},
		{[]int{-1, 1, 0, -5}, 1, 3},
		{[]int{-1, 1, 0, -5}, 0, -1},
		{[]int{-1, 1, 0, -5}, 3, -1},
		{[]int{9, 2, 0, 0, 9}, 1, 4},
		{[]int{9, 2, 0, 0, 9}, 0, -1},
		{[]int{9, 2, 0, 0, 9}, 4, -1},
		{[]int{2, 0, 1}, 0, -1},
		{[]int{2, 0, 1}, 1, 2},
		{[]int{2, 0, 1}, 2, -1},
		{[]int{2, 0, -1}, 0, -1},
		{[]int{math.MaxInt, 0}, 0, -1},
		{[]int{math.MaxInt, 0}, 1, 2},
	} {
		if got := tree.End(nodes(x.kids...), x.at); got != x.want {
			t.Errorf("End(%v, %d) = %d, want %d", x.kids, x.at, got, x.want)
		}
	}
}

// P2.1: an index that is not one of the list.
func TestNoIndex(t *testing.T) {
	for _, l := range [][]api.Node{nil, {}, nodes(0), nodes(-1), example()} {
		for _, at := range []int{math.MinInt, -2, -1, len(l), len(l) + 1, math.MaxInt} {
			if got := tree.End(l, at); got != -1 {
				t.Errorf("End(%v, %d) = %d", l, at, got)
			}
			if got := tree.Kids(l, at); len(got) != 0 {
				t.Errorf("Kids(%v, %d) = %v", l, at, got)
			}
			if got, e := tree.Sub(l, at); len(got) != 0 || e != api.ErrTreeForm {
				t.Errorf("Sub(%v, %d) = %v, %d", l, at, got, e)
			}
			if got, e := tree.Put(l, at, nodes(0)); len(got) != 0 || e != api.ErrTreeForm {
				t.Errorf("Put(%v, %d) = %v, %d", l, at, got, e)
			}
			if got := tree.Up(l, at); got != -1 {
				t.Errorf("Up(%v, %d) = %d", l, at, got)
			}
		}
	}
}

// P2.1: exactly one tree.
func TestWhole(t *testing.T) {
	for _, kids := range [][]int{{0}, {1, 0}, {2, 0, 0}, {2, 1, 0, 0}, {1, 1, 1, 0}, {3, 0, 2, 0, 1, 0, 2, 0, 0}} {
		if !tree.Whole(nodes(kids...)) {
			t.Errorf("Whole(%v) is false", kids)
		}
	}
	for name, l := range noTrees() {
		if tree.Whole(l) {
			t.Errorf("%s: Whole is true", name)
		}
	}
}

// P2.1: where the kids begin, in order.
func TestKids(t *testing.T) {
	for at, want := range [][]int{{1, 2, 6}, {}, {3, 4}, {}, {5}, {}, {7, 8}, {}, {}} {
		if got := tree.Kids(example(), at); !slices.Equal(got, want) {
			t.Errorf("Kids at %d = %v, want %v", at, got, want)
		}
	}
	// Kids that begin are not told if a later one does not.
	for _, kids := range [][]int{{2, 0}, {2, 0, -1}, {2, 0, 1}, {3, 1, 0, 0}, {-1, 0}, {math.MaxInt, 0, 0}} {
		if got := tree.Kids(nodes(kids...), 0); len(got) != 0 {
			t.Errorf("Kids(%v, 0) = %v", kids, got)
		}
	}
}

// P2.1: the subtree itself.
func TestSub(t *testing.T) {
	l := example()
	for at, end := range []int{9, 2, 6, 4, 6, 6, 9, 8, 9} {
		if got, e := tree.Sub(l, at); !slices.Equal(got, l[at:end]) || e != api.OK {
			t.Errorf("Sub at %d = %v, %d, want %v", at, got, e, l[at:end])
		}
	}
	for _, kids := range [][]int{{1}, {-1}, {2, 0}, {math.MaxInt, 0}} {
		if got, e := tree.Sub(nodes(kids...), 0); len(got) != 0 || e != api.ErrTreeForm {
			t.Errorf("Sub(%v, 0) = %v, %d", kids, got, e)
		}
	}
}

// P2.2: the node, with its Kids set, and the lists, whatever they are.
func TestMake(t *testing.T) {
	n := api.Node{Kind: 7, Text: "n", Num: -3, Kids: 5}
	a, b := nodes(1, 0), nodes(0)
	for _, x := range []struct {
		kids [][]api.Node
		want []api.Node
	}{
		{nil, []api.Node{{Kind: 7, Text: "n", Num: -3}}},
		{[][]api.Node{b}, []api.Node{{Kind: 7, Text: "n", Num: -3, Kids: 1}, b[0]}},
		{[][]api.Node{a, b}, []api.Node{{Kind: 7, Text: "n", Num: -3, Kids: 2}, a[0], a[1], b[0]}},
		{[][]api.Node{b, a, b}, []api.Node{{Kind: 7, Text: "n", Num: -3, Kids: 3}, b[0], a[0], a[1], b[0]}},
		{[][]api.Node{nil, {}}, []api.Node{{Kind: 7, Text: "n", Num: -3, Kids: 2}}},
		{[][]api.Node{nodes(-1), nil, nodes(9, 0)}, []api.Node{{Kind: 7, Text: "n", Num: -3, Kids: 3}, nodes(-1)[0], nodes(9, 0)[0], nodes(9, 0)[1]}},
	} {
		if got := tree.Make(n, x.kids...); !slices.Equal(got, x.want) {
			t.Errorf("Make(%v) = %v, want %v", x.kids, got, x.want)
		}
	}
}

// P2.2: a subtree replaced.
func TestPut(t *testing.T) {
	l, by := nodes(2, 1, 0, 0), []api.Node{{Num: 1, Kids: 2}, {Num: 2}, {Num: 3}}
	for at, want := range [][]api.Node{
		by,
		{l[0], by[0], by[1], by[2], l[3]},
		{l[0], l[1], by[0], by[1], by[2], l[3]},
		{l[0], l[1], l[2], by[0], by[1], by[2]},
	} {
		if got, e := tree.Put(l, at, by); !slices.Equal(got, want) || e != api.OK {
			t.Errorf("Put at %d = %v, %d, want %v", at, got, e, want)
		}
	}
	// Only the subtree has to be there: l need not be Whole.
	got, e := tree.Put(nodes(-1, 1, 0, 7), 1, by)
	want := []api.Node{nodes(-1)[0], by[0], by[1], by[2], nodes(-1, 1, 0, 7)[3]}
	if !slices.Equal(got, want) || e != api.OK {
		t.Errorf("Put among other nodes = %v, %d, want %v", got, e, want)
	}
}

func TestPutOfWhatIsNoTree(t *testing.T) {
	for name, by := range noTrees() {
		if got, e := tree.Put(example(), 4, by); len(got) != 0 || e != api.ErrTreeForm {
			t.Errorf("%s: Put = %v, %d", name, got, e)
		}
	}
	for _, kids := range [][]int{{1}, {-1}, {2, 0}, {math.MaxInt, 0}} {
		if got, e := tree.Put(nodes(kids...), 0, nodes(0)); len(got) != 0 || e != api.ErrTreeForm {
			t.Errorf("Put(%v, 0) = %v, %d", kids, got, e)
		}
	}
}

// P2.2: the depth; 0 if the list is not Whole.
func TestDeep(t *testing.T) {
	for _, x := range []struct {
		kids []int
		want int
	}{
		{[]int{0}, 1},
		{[]int{1, 0}, 2},
		{[]int{2, 0, 0}, 2},
		{[]int{2, 1, 0, 0}, 3},
		{[]int{2, 0, 1, 0}, 3},
		{[]int{3, 0, 1, 0, 0}, 3},
		{[]int{2, 1, 1, 0, 1, 0}, 4},
		{[]int{2, 1, 0, 1, 1, 0}, 4},
		{[]int{1, 1, 1, 0}, 4},
		{[]int{3, 0, 2, 0, 1, 0, 2, 0, 0}, 4},
	} {
		if got := tree.Deep(nodes(x.kids...)); got != x.want {
			t.Errorf("Deep(%v) = %d, want %d", x.kids, got, x.want)
		}
	}
	for name, l := range noTrees() {
		if got := tree.Deep(l); got != 0 {
			t.Errorf("%s: Deep = %d", name, got)
		}
	}
}

// P2.2: the parent; -1 for the root, and for each node of a list that is not Whole.
func TestUp(t *testing.T) {
	for at, want := range []int{-1, 0, 0, 2, 2, 4, 0, 6, 6} {
		if got := tree.Up(example(), at); got != want {
			t.Errorf("Up of %d = %d, want %d", at, got, want)
		}
	}
	for name, l := range noTrees() {
		for at := range len(l) + 1 {
			if got := tree.Up(l, at); got != -1 {
				t.Errorf("%s: Up of %d = %d", name, at, got)
			}
		}
	}
}

// P2.1 and P2.2, for all short lists: what the document says of each subtree.
func TestAllShortLists(t *testing.T) {
	for _, kids := range kidLists(6) {
		l := nodes(kids...)
		checkList(t, l)
		for at := range len(l) {
			checkSubtree(t, l, at)
		}
	}
}

// checkList compares what is said of a whole list with the model.
func checkList(t *testing.T, l []api.Node) {
	m, ok := build(l, 0)
	whole := ok && m.end == len(l)
	deep := 0
	if whole {
		deep = m.deep()
	}
	if got := tree.Whole(l); got != whole {
		t.Errorf("Whole(%v) = %v", l, got)
	}
	if got := tree.Deep(l); got != deep {
		t.Errorf("Deep(%v) = %d, want %d", l, got, deep)
	}
	for at := range len(l) {
		up := -1
		if whole {
			up = m.up(at)
		}
		if got := tree.Up(l, at); got != up {
			t.Errorf("Up(%v, %d) = %d, want %d", l, at, got, up)
		}
	}
}

// checkSubtree compares what is said of a subtree with the model.
func checkSubtree(t *testing.T, l []api.Node, at int) {
	m, ok := build(l, at)
	end, sub, e := -1, []api.Node(nil), api.ErrTreeForm
	if ok {
		end, sub, e = m.end, l[m.begin:m.end], api.OK
	}
	var kids []int
	for _, kid := range m.kids {
		kids = append(kids, kid.begin)
	}
	if got := tree.End(l, at); got != end {
		t.Errorf("End(%v, %d) = %d, want %d", l, at, got, end)
	}
	if got := tree.Kids(l, at); !slices.Equal(got, kids) {
		t.Errorf("Kids(%v, %d) = %v, want %v", l, at, got, kids)
	}
	if got, f := tree.Sub(l, at); !slices.Equal(got, sub) || f != e {
		t.Errorf("Sub(%v, %d) = %v, %d, want %v, %d", l, at, got, f, sub, e)
	}
	var put []api.Node
	by := []api.Node{{Num: 1, Kids: 1}, {Num: 2}}
	if ok {
		put = slices.Concat(l[:at], by, l[end:])
	}
	if got, f := tree.Put(l, at, by); !slices.Equal(got, put) || f != e {
		t.Errorf("Put(%v, %d) = %v, %d, want %v, %d", l, at, got, f, put, e)
	}
}

// P2.3: a tree consists of its root and the subtrees of its kids; a subtree replaced by itself changes nothing.
func TestConsequences(t *testing.T) {
	for _, kids := range kidLists(6) {
		l := nodes(kids...)
		for at := range len(l) {
			sub, e := tree.Sub(l, at)
			if e != api.OK {
				continue
			}
			var parts [][]api.Node
			for _, kid := range tree.Kids(l, at) {
				part, _ := tree.Sub(l, kid)
				parts = append(parts, part)
			}
			if got := tree.Make(l[at], parts...); !slices.Equal(got, sub) {
				t.Errorf("%v at %d: root and kids are %v", l, at, got)
			}
			if got, e := tree.Put(l, at, sub); !slices.Equal(got, l) || e != api.OK {
				t.Errorf("%v at %d replaced by itself: %v, %d", l, at, got, e)
			}
		}
	}
}

// P1: every call ends soon, however long, deep or wide a tree is.
func TestGreatTrees(t *testing.T) {
	const n = 1 << 20
	deep, wide := chain(n), fan(n)
	if got := tree.Deep(deep); got != n {
		t.Errorf("a chain is %d deep", got)
	}
	if got := tree.Deep(wide); got != 2 {
		t.Errorf("a fan is %d deep", got)
	}
	if got := tree.Up(deep, n-1); got != n-2 {
		t.Errorf("the parent of the chain's last node is %d", got)
	}
	if got := tree.Up(wide, n-1); got != 0 {
		t.Errorf("the parent of the fan's last node is %d", got)
	}
	if got := tree.Kids(wide, 0); len(got) != n-1 || got[0] != 1 || got[n-2] != n-1 {
		t.Errorf("the fan has %d kids", len(got))
	}
	if got := tree.Kids(deep, 0); !slices.Equal(got, []int{1}) {
		t.Errorf("the chain's root has the kids %v", got)
	}
	if tree.End(deep, 0) != n || tree.Whole(deep[:n-1]) || tree.End(wide, 0) != n || tree.Whole(wide[:n-1]) {
		t.Error("a great tree does not end where it does")
	}
}

// spare returns a list with nodes in its unused capacity, and a function that tells whether anything in it has changed.
func spare(l []api.Node) ([]api.Node, func() bool) {
	all := append(slices.Clone(l), nodes(4, 4, 4, 4, 4, 4)...)
	before := slices.Clone(all)
	return all[:len(l)], func() bool { return !slices.Equal(all, before) }
}

// The document's rules: arguments, with their unused capacity, are not modified, and results are new.
func TestArgumentsAndResultsAreApart(t *testing.T) {
	l, changed := spare(example())
	by, byChanged := spare(nodes(1, 0))
	tree.End(l, 0)
	tree.Whole(l)
	tree.Deep(l)
	tree.Up(l, 5)
	tree.Kids(l, 0)
	sub, _ := tree.Sub(l, 2)
	all, _ := tree.Sub(l, 0)
	put, _ := tree.Put(l, 2, by)
	root, _ := tree.Put(l, 0, by)
	lists := [][]api.Node{l, by}
	made := tree.Make(l[0], lists...)
	lone := tree.Make(l[0], by)
	for _, result := range [][]api.Node{sub, all, put, root, made, lone} {
		for at := range result {
			result[at] = api.Node{Num: -1}
		}
		_ = append(result, api.Node{Num: -1})
	}
	if changed() || byChanged() {
		t.Error("an argument has changed")
	}
	if len(lists) != 2 || !slices.Equal(lists[0], l) || !slices.Equal(lists[1], by) {
		t.Error("the list of the kids has changed")
	}
}

// The list of kids itself is an argument too: its unused capacity stays as it is.
func TestMakeKeepsTheListOfKids(t *testing.T) {
	lists := [][]api.Node{nodes(0), nodes(1, 0), nodes(2, 0, 0)}
	tree.Make(api.Node{}, lists[:1]...)
	for at, want := range [][]api.Node{nodes(0), nodes(1, 0), nodes(2, 0, 0)} {
		if !slices.Equal(lists[at], want) {
			t.Errorf("the kid %d has changed to %v", at, lists[at])
		}
	}
}

// The example of the chapter.
func TestExample(t *testing.T) {
	l := nodes(2, 1, 0, 0)
	if !tree.Whole(l) || !slices.Equal(tree.Kids(l, 0), []int{1, 3}) || tree.Deep(l) != 3 {
		t.Errorf("Whole, Kids and Deep of four nodes: %v, %v, %d", tree.Whole(l), tree.Kids(l, 0), tree.Deep(l))
	}
}
