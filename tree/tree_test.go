package tree

import (
	"math"
	"reflect"
	"slices"
	"strings"
	"testing"

	"obelus/api"
)

// far: numbers that are no node of any tree here, and no number of times, group or budget.
var far = []int{math.MinInt, math.MinInt + 1, -100, -2, 1000000, math.MaxInt - 1, math.MaxInt}

// of, set, bare, two, rep, group, bud: trees and nodes in short.
func of(l ...api.Node) api.Tree { return api.Tree{L: l} }

func set(l ...int) api.Node {
	x := api.Node{Kind: api.Set}
	for i := 0; i+1 < len(l); i += 2 {
		x.Set = append(x.Set, api.Rng{Lo: l[i], Hi: l[i+1]})
	}
	return x
}

func bare(kind int) api.Node      { return api.Node{Kind: kind} }
func two(kind, a, b int) api.Node { return api.Node{Kind: kind, A: a, B: b} }
func rep(a, m, n int) api.Node    { return api.Node{Kind: api.Rep, A: a, Min: m, Max: n} }
func group(a, n int) api.Node     { return api.Node{Kind: api.Cap, A: a, N: n} }
func bud(a, n int) api.Node       { return api.Node{Kind: api.Bud, A: a, N: n} }

// copyOf: a tree that shares nothing with t.
func copyOf(t api.Tree) api.Tree {
	l := slices.Clone(t.L)
	for i := range l {
		l[i].Set = slices.Clone(l[i].Set)
	}
	return api.Tree{L: l}
}

// children: a node's kids, by the chapter.
func children(x api.Node) []int {
	if x.Kind == api.Cat || x.Kind == api.Alt {
		return []int{x.A, x.B}
	}
	if x.Kind == api.Rep || x.Kind == api.Cap || x.Kind == api.Bud {
		return []int{x.A}
	}
	return nil
}

// hangsWell: the chapter's words on kids, asked of each node by itself.
func hangsWell(t api.Tree) bool {
	for i, x := range t.L {
		for _, k := range children(x) {
			if k < 0 || k >= i {
				return false
			}
		}
		times := 0
		for _, y := range t.L {
			for _, k := range children(y) {
				if k == i {
					times++
				}
			}
		}
		last := i == len(t.L)-1
		if last && times != 0 || !last && times != 1 {
			return false
		}
	}
	return len(t.L) > 0
}

// walk: the nodes under node i, each behind all that hangs on it; and the numbers of the groups, a group ahead of those within it.
func walk(t api.Tree, i int) (nodes, groups []int) {
	if t.L[i].Kind == api.Cap {
		groups = append(groups, t.L[i].N)
	}
	for _, k := range children(t.L[i]) {
		n, g := walk(t, k)
		nodes = append(nodes, n...)
		groups = append(groups, g...)
	}
	return append(nodes, i), groups
}

// upTo: the numbers from the first up to the last one, both among them.
func upTo(first, last int) []int {
	var l []int
	for i := first; i <= last; i++ {
		l = append(l, i)
	}
	return l
}

// orderedWell: the chapter's words on order, of a tree whose kids hang well.
func orderedWell(t api.Tree) bool {
	nodes, groups := walk(t, len(t.L)-1)
	return slices.Equal(nodes, upTo(0, len(t.L)-1)) && slices.Equal(groups, upTo(1, len(groups)))
}

// want: holds all that is told of the shape of t against the chapter's words.
func want(t *testing.T, x api.Tree) {
	t.Helper()
	sound := hangsWell(x)
	good := sound && orderedWell(x)
	if Sound(x) != sound || Good(x) != good {
		t.Fatalf("%v: sound %v, good %v, not %v and %v", x, Sound(x), Good(x), sound, good)
	}
	for i := range x.L {
		first := -1
		if good {
			nodes, _ := walk(x, i)
			first = slices.Min(nodes)
			// P8.2: these nodes, and no others, hang on it.
			if !slices.Equal(nodes, upTo(First(x, i), i)) {
				t.Fatalf("%v: on %d hang %v, First %d", x, i, nodes, First(x, i))
			}
		}
		if got := First(x, i); got != first {
			t.Fatalf("%v: First of %d is %d, not %d", x, i, got, first)
		}
	}
}

// choices: nodes with all kids from -1 to n.
func choices(n int) []api.Node {
	l := []api.Node{bare(api.Empty)}
	for a := -1; a <= n; a++ {
		l = append(l, group(a, 1), group(a, 2), bud(a, 1))
		for b := -1; b <= n; b++ {
			l = append(l, two(api.Cat, a, b))
		}
	}
	return l
}

// fill: the row with each of the choices at each of its first n places.
func fill(row, of []api.Node, n int, do func()) {
	if n == 0 {
		do()
		return
	}
	for _, x := range of {
		row[n-1] = x
		fill(row, of, n-1, do)
	}
}

// P8.1, P8.2: all rows of up to three nodes, whatever their kids, and these with some roots behind them.
func TestAllRows(t *testing.T) {
	for n := 0; n <= 3; n++ {
		row := make([]api.Node, n)
		fill(row, choices(n), n, func() { want(t, of(row...)) })
	}
	for _, root := range []api.Node{two(api.Alt, 1, 2), two(api.Alt, 2, 1), two(api.Cat, 0, 2), rep(2, 0, 0), group(2, 1), group(2, 3)} {
		row := []api.Node{{}, {}, {}, root}
		fill(row, choices(4), 3, func() { want(t, of(row...)) })
	}
}

// shapes: all good trees of n nodes, their groups without numbers.
func shapes(n int) []api.Tree {
	if n == 1 {
		return []api.Tree{of(set('a', 'a'))}
	}
	var out []api.Tree
	for _, x := range shapes(n - 1) {
		out = append(out, of(append(slices.Clone(x.L), group(n-2, 0))...), of(append(slices.Clone(x.L), rep(n-2, 0, -1))...))
	}
	for m := 1; m <= n-2; m++ {
		for _, x := range shapes(m) {
			for _, y := range shapes(n - 1 - m) {
				l := append(slices.Clone(x.L), moved(y.L, func(k int) int { return k + m })...)
				out = append(out, of(append(l, two(api.Alt, m-1, n-2))...))
			}
		}
	}
	return out
}

// moved: the nodes with other numbers for their kids.
func moved(l []api.Node, to func(k int) int) []api.Node {
	out := slices.Clone(l)
	for i, x := range l {
		switch len(children(x)) {
		case 2:
			out[i].A, out[i].B = to(x.A), to(x.B)
		case 1:
			out[i].A = to(x.A)
		}
	}
	return out
}

// orders: all orders of the numbers below n.
func orders(n int) [][]int {
	if n == 0 {
		return [][]int{nil}
	}
	var out [][]int
	for _, p := range orders(n - 1) {
		for i := range n {
			out = append(out, slices.Insert(slices.Clone(p), i, n-1))
		}
	}
	return out
}

// groupsOf: the numbers of the nodes that are groups.
func groupsOf(l []api.Node) []int {
	var out []int
	for i, x := range l {
		if x.Kind == api.Cap {
			out = append(out, i)
		}
	}
	return out
}

// P8.1, P8.2: groups in all orders of their numbers: just one is good; and that one with a number left out, or told twice, is not.
func TestNumbersOfGroups(t *testing.T) {
	for n := 1; n <= 6; n++ {
		for _, x := range shapes(n) {
			groups := groupsOf(x.L)
			good := 0
			for _, p := range orders(len(groups)) {
				for k, i := range groups {
					x.L[i].N = p[k] + 1
				}
				want(t, x)
				if !Good(x) {
					continue
				}
				good++
				for _, i := range groups {
					for _, m := range []int{1, len(groups) + 1, api.MaxCaps} {
						y := copyOf(x)
						y.L[i].N = m
						want(t, y)
					}
				}
			}
			if good != 1 || Caps(x) != len(groups) {
				t.Fatalf("%v: %d good, %d groups", x, good, Caps(x))
			}
		}
	}
}

// P8.1: nodes in all orders: each that has kids ahead is sound, the one of the chapter alone is good.
func TestOrdersOfNodes(t *testing.T) {
	for n := 1; n <= 5; n++ {
		all := orders(n)
		for _, x := range shapes(n) {
			numberAll(x)
			good := 0
			for _, p := range all {
				y := api.Tree{L: make([]api.Node, n)}
				for i, z := range moved(x.L, func(k int) int { return p[k] }) {
					y.L[p[i]] = z
				}
				want(t, y)
				if Good(y) {
					good++
				}
			}
			if good != 1 {
				t.Fatalf("%v: %d orders are good", x, good)
			}
		}
	}
}

// numberAll: groups get the numbers that they have in a good tree.
func numberAll(x api.Tree) {
	next := 1
	var down func(i int)
	down = func(i int) {
		if x.L[i].Kind == api.Cap {
			x.L[i].N = next
			next++
		}
		for _, k := range children(x.L[i]) {
			down(k)
		}
	}
	down(len(x.L) - 1)
}

// under: a tree whose root is x, its kids ahead of it.
func under(x api.Node) api.Tree {
	l := make([]api.Node, 0, 3)
	for range children(x) {
		l = append(l, bare(api.Empty))
	}
	return of(append(l, x)...)
}

// wantFits: is the tree with this root sound? (Other roots than those that fit are handed in with their kids.)
func wantFits(t *testing.T, x api.Node, sound bool) {
	t.Helper()
	if tr := under(x); Sound(tr) != sound || Good(tr) && !sound {
		t.Errorf("%v: sound %v, good %v", tr, Sound(tr), Good(tr))
	}
}

// sample: a node of each kind that fits.
func sample() []api.Node {
	return []api.Node{bare(api.Empty), set('a', 'b'), bare(api.Bol), bare(api.Eol), two(api.Cat, 0, 1), two(api.Alt, 0, 1), rep(0, 2, 3), group(0, 1), bud(0, 1)}
}

// P8.1: fields that the chapter does not name for a kind are zero; no other kinds are there.
func TestFields(t *testing.T) {
	named := map[int]string{
		api.Empty: "", api.Set: "Set", api.Bol: "", api.Eol: "", api.Cat: "A B", api.Alt: "A B",
		api.Rep: "A Min Max", api.Cap: "A N", api.Bud: "A N",
	}
	for _, x := range sample() {
		wantFits(t, x, true)
		for _, field := range []string{"A", "B", "Min", "Max", "N"} {
			if slices.Contains(strings.Fields(named[x.Kind]), field) {
				continue
			}
			for _, v := range append([]int{-1, 1, 2}, far...) {
				y := x
				reflect.ValueOf(&y).Elem().FieldByName(field).SetInt(int64(v))
				wantFits(t, y, false)
			}
		}
		y := x
		y.Set = []api.Rng{}
		wantFits(t, y, true)
		y.Set = []api.Rng{{Lo: 0, Hi: 0}}
		wantFits(t, y, x.Kind == api.Set)
	}
	for _, kind := range append([]int{-1, 0, 10, 11}, far...) {
		wantFits(t, bare(kind), false)
		if x := of(bare(api.Empty), bare(kind)); Sound(x) || Good(x) {
			t.Errorf("kind %d", kind)
		}
	}
}

// P8.1: how often, which group, how great a budget: the edges.
func TestNumbers(t *testing.T) {
	edges := append([]int{-3, -1, 0, 1, 2, 98, 99, 100, 101, 253, 254, 255, 256, 257}, far...)
	for _, m := range edges {
		wantFits(t, group(0, m), m >= 1 && m <= 99)
		wantFits(t, bud(0, m), m >= 0 && m <= 255)
		for _, n := range edges {
			wantFits(t, rep(0, m, n), m >= 0 && m <= 255 && (n == -1 || n >= m && n <= 255))
		}
	}
}

// P8.1: Sets are normal.
func TestSets(t *testing.T) {
	for _, l := range [][]int{{}, {0, 0}, {0, api.MaxSym}, {1, 2, 4, 4}, {0, 0xd7fe, 0xe001, 0x10ffff}, {0xd7ff, 0xe000}, {api.Raw + 0x80, api.Raw + 0xff}} {
		wantFits(t, set(l...), true)
	}
	for _, l := range [][]int{{3, 1}, {1, 2, 3, 4}, {1, 2, 2, 3}, {4, 4, 1, 2}, {1, 1, 1, 1}, {-1, 3}, {0, api.MaxSym + 1}, {0xd800, 0xd800}, {0, 0xd7ff, 0xe000, 0xe000}, {0, 0x10ffff, api.Raw + 0x80, api.MaxSym}, {api.Raw, api.Raw + 0x90}, {1, 2, 4, 3}} {
		wantFits(t, set(l...), false)
		if x := of(set(l...), set('a', 'a'), two(api.Cat, 0, 1)); Sound(x) || Good(x) || First(x, 0) != -1 {
			t.Errorf("%v: sound", x)
		}
	}
}

// P8.1: a fault anywhere makes the whole tree unsound, and First tells nothing of it.
func TestFaultWithin(t *testing.T) {
	x := of(set('a', 'a'), rep(0, 0, -1), bare(api.Bol), two(api.Cat, 1, 2), group(3, 1), bare(api.Eol), bud(5, 2), two(api.Alt, 4, 6))
	want(t, x)
	for i := range x.L {
		y := copyOf(x)
		y.L[i].N = 1000
		if Sound(y) || Good(y) || First(y, i) != -1 || First(y, 0) != -1 {
			t.Errorf("%d: sound", i)
		}
		y = copyOf(x)
		y.L[i].Kind = 0
		if Sound(y) || Good(y) || First(y, 7) != -1 {
			t.Errorf("%d: sound without a kind", i)
		}
	}
	for _, k := range append([]int{-1, 8}, far...) {
		for _, i := range []int{1, 3, 4, 6, 7} {
			y := copyOf(x)
			y.L[i].A = k
			if Sound(y) || Good(y) || First(y, i) != -1 {
				t.Errorf("%d: its kid is %d", i, k)
			}
		}
		y := copyOf(x)
		y.L[7].B = k
		if Sound(y) || Good(y) || First(y, 7) != -1 {
			t.Errorf("its other kid is %d", k)
		}
	}
}

// P8.1: First of what is no node, and of no tree.
func TestFirstOfNone(t *testing.T) {
	x := of(set('a', 'a'), set('b', 'b'), two(api.Alt, 0, 1))
	for _, i := range append([]int{-1, 3, 4}, far...) {
		if First(x, i) != -1 {
			t.Errorf("%d: %d", i, First(x, i))
		}
	}
	for i := -1; i <= 1; i++ {
		if First(of(), i) != -1 {
			t.Errorf("of none, %d: %d", i, First(of(), i))
		}
	}
}

// P8.1: Caps and Leaves go by kinds alone, of what is no tree, too.
func TestCapsAndLeaves(t *testing.T) {
	var l []api.Node
	caps, leaves := 0, []int(nil)
	for i, kind := range []int{api.Set, api.Cap, 0, api.Set, api.Empty, api.Bol, api.Cap, api.Eol, api.Cat, api.Set, api.Alt, api.Rep, api.Bud, 10, -1, api.Cap, api.Set} {
		l = append(l, api.Node{Kind: kind, A: 99, B: -7, N: 5, Set: set('b', 'a').Set})
		if kind == api.Cap {
			caps++
		}
		if kind == api.Set {
			leaves = append(leaves, i)
		}
		if got := Leaves(of(l...)); Caps(of(l...)) != caps || !slices.Equal(got, leaves) {
			t.Errorf("%v: %d and %v, not %d and %v", l, Caps(of(l...)), got, caps, leaves)
		}
	}
	if Caps(of()) != 0 || len(Leaves(of())) != 0 || Caps(of(bare(api.Cat))) != 0 || len(Leaves(of(bare(api.Cap)))) != 0 {
		t.Error("none")
	}
}

// P8.1: more groups than a sound tree can number are counted.
func TestManyCaps(t *testing.T) {
	x := of(bare(api.Empty))
	for i := range 300 {
		x.L = append(x.L, group(i, 300-i))
		// Numbered from the outermost one on, they are good up to the last number that there is.
		y := copyOf(x)
		for k := 1; k < len(y.L); k++ {
			y.L[k].N = len(y.L) - k
		}
		if good := i < api.MaxCaps; Sound(y) != good || Good(y) != good || Caps(y) != i+1 {
			t.Fatalf("%d groups: %v %v %d", i+1, Sound(y), Good(y), Caps(y))
		}
	}
}

// P8.1: Same holds all fields of all nodes against each other, whatever they are.
func TestSame(t *testing.T) {
	base := of(append(sample(), api.Node{Kind: 77, A: -1, B: 9, Set: set(3, 1, 5, 7).Set, Min: 4, Max: -8, N: 6})...)
	wantSame(t, base, copyOf(base), true)
	for i := range base.L {
		for _, field := range []string{"Kind", "A", "B", "Min", "Max", "N"} {
			for _, d := range []int64{-1, 1, 1 << 32, math.MinInt64} {
				y := copyOf(base)
				v := reflect.ValueOf(&y.L[i]).Elem().FieldByName(field)
				v.SetInt(v.Int() + d)
				wantSame(t, base, y, false)
			}
		}
		y := copyOf(base)
		y.L[i].Set = append(y.L[i].Set, api.Rng{Lo: 9, Hi: 9})
		wantSame(t, base, y, false)
		wantSame(t, base, of(base.L[:i]...), false)
		y = copyOf(base)
		y.L[i], y.L[0] = y.L[0], y.L[i]
		wantSame(t, base, y, i == 0)
	}
	y := copyOf(base)
	y.L[9].Set[0].Lo++
	wantSame(t, base, y, false)
	y = copyOf(base)
	y.L[9].Set[1].Hi++
	wantSame(t, base, y, false)
	y = copyOf(base)
	slices.Reverse(y.L[9].Set)
	wantSame(t, base, y, false)
	wantSame(t, of(set(1, 2, 3, 4)), of(set(1, 4)), false)
}

// wantSame: are they alike, whichever is named first?
func wantSame(t *testing.T, a, b api.Tree, same bool) {
	t.Helper()
	if Same(a, b) != same || Same(b, a) != same {
		t.Errorf("%v and %v: %v %v", a, b, Same(a, b), Same(b, a))
	}
}

// P8.1: nil lists and empty ones are one.
func TestSameOfNone(t *testing.T) {
	wantSame(t, api.Tree{}, api.Tree{L: []api.Node{}}, true)
	wantSame(t, api.Tree{}, api.Tree{}, true)
	wantSame(t, api.Tree{}, of(api.Node{}), false)
	for kind := range 10 {
		wantSame(t, of(bare(kind)), of(api.Node{Kind: kind, Set: []api.Rng{}}), true)
		wantSame(t, of(bare(kind)), of(api.Node{Kind: kind, Set: make([]api.Rng, 1)}), false)
	}
}

// P8.1: what is asked is not changed, and the list that is told is new.
func TestNothingIsShared(t *testing.T) {
	x := of(set('a', 'a'), group(0, 2), set('b', 'c', 'e', 'e'), two(api.Cat, 1, 2), rep(3, 0, 2), group(4, 1))
	whole := copyOf(x)
	for i := range x.L {
		a, b := Leaves(x), Leaves(x)
		a = append(a, 7)
		for k := range a {
			a[k] = -5
		}
		if !slices.Equal(b, []int{0, 2}) || !slices.Equal(Leaves(x), b) {
			t.Errorf("%v", b)
		}
		if !Sound(x) || !Good(x) || Caps(x) != 2 || First(x, i) != []int{0, 0, 2, 0, 0, 0}[i] || !Same(x, whole) {
			t.Errorf("%d: other answers", i)
		}
	}
	if !reflect.DeepEqual(x, whole) {
		t.Errorf("%v", x)
	}
}

// P8.1: trees of many levels are asked as others are.
func TestDeep(t *testing.T) {
	const levels = 1 << 16
	chain, left, right := of(bare(api.Empty)), of(set('a', 'a')), of()
	for i := range levels {
		chain.L = append(chain.L, bud(i, i%256))
		left.L = append(left.L, set('b', 'b'), two(api.Cat, 2*i, 2*i+1))
		right.L = append(right.L, set('a', 'a'))
	}
	for i := range levels - 1 {
		right.L = append(right.L, two(api.Alt, levels-2-i, levels-1+i))
	}
	for i, x := range []api.Tree{chain, left, right} {
		root := len(x.L) - 1
		if !Sound(x) || !Good(x) || First(x, root) != 0 || !Same(x, copyOf(x)) {
			t.Errorf("%d: %v %v %d", i, Sound(x), Good(x), First(x, root))
		}
	}
	if First(left, 2*levels-1) != 2*levels-1 || First(right, len(right.L)-2) != 1 || First(chain, 7) != 0 {
		t.Error("within")
	}
	if len(Leaves(left)) != levels+1 || len(Leaves(right)) != levels || len(Leaves(chain)) != 0 {
		t.Error("leaves")
	}
}

// The chapter's example.
func TestExample(t *testing.T) {
	x := of(set('a', 'a'), set('b', 'b'), two(api.Alt, 0, 1))
	want(t, x)
	if !Good(x) {
		t.Error("not good")
	}
}
