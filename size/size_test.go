package size

import (
	"math"
	"math/big"
	"reflect"
	"slices"
	"testing"

	"obelus/api"
	"obelus/parse"
	"obelus/tree"
)

// of, bare, two, rep, group, bud: trees and nodes in short. (All groups have the number 1, as a sound tree's may.)
func of(l ...api.Node) api.Tree { return api.Tree{L: l} }

func bare(kind int) api.Node      { return api.Node{Kind: kind} }
func two(kind, a, b int) api.Node { return api.Node{Kind: kind, A: a, B: b} }
func rep(a, m, n int) api.Node    { return api.Node{Kind: api.Rep, A: a, Min: m, Max: n} }
func group(a int) api.Node        { return api.Node{Kind: api.Cap, A: a, N: 1} }
func bud(a, n int) api.Node       { return api.Node{Kind: api.Bud, A: a, N: n} }

// over: the tree with one node more, on which its root hangs.
func over(x api.Tree, root api.Node) api.Tree {
	root.A = len(x.L) - 1
	return of(append(slices.Clone(x.L), root)...)
}

// joined: a Cat or Alt of both trees.
func joined(kind int, x, y api.Tree) api.Tree {
	m, l := len(x.L), slices.Clone(x.L)
	for _, z := range y.L {
		if hasKid(z) {
			z.A += m
		}
		if hasTwo(z) {
			z.B += m
		}
		l = append(l, z)
	}
	return of(append(l, two(kind, m-1, len(l)-1))...)
}

func hasTwo(x api.Node) bool { return x.Kind == api.Cat || x.Kind == api.Alt }

func hasKid(x api.Node) bool {
	return hasTwo(x) || x.Kind == api.Rep || x.Kind == api.Cap || x.Kind == api.Bud
}

// copyOf: a tree that shares nothing with t.
func copyOf(t api.Tree) api.Tree {
	l := slices.Clone(t.L)
	for i := range l {
		l[i].Set = slices.Clone(l[i].Set)
	}
	return api.Tree{L: l}
}

// parsed: the tree of a pattern without a fault.
func parsed(t *testing.T, s string) api.Tree {
	t.Helper()
	x, f := parse.Parse(s)
	if f.Err != api.OK {
		t.Fatalf("%q: %v", s, f)
	}
	return x
}

// whole: a whole number of any size.
func whole(n int) *big.Int { return big.NewInt(int64(n)) }

func plus(a, b *big.Int) *big.Int { return new(big.Int).Add(a, b) }
func by(a, b *big.Int) *big.Int   { return new(big.Int).Mul(a, b) }

// least: the number, or Huge, if it is above that.
func least(a *big.Int) int {
	if a.Cmp(whole(api.Huge)) > 0 {
		return api.Huge
	}
	return int(a.Int64())
}

// statesUnder: the chapter's words on a node's states, in numbers without bound.
func statesUnder(t api.Tree, i int) *big.Int {
	x := t.L[i]
	if !hasKid(x) || x.Kind == api.Rep && x.Min == 0 && x.Max == 0 {
		return whole(1)
	}
	a := statesUnder(t, x.A)
	switch x.Kind {
	case api.Cat:
		return plus(a, statesUnder(t, x.B))
	case api.Alt:
		return plus(whole(1), plus(a, statesUnder(t, x.B)))
	case api.Rep:
		m := by(whole(x.Min), a)
		if x.Max == -1 {
			return plus(m, plus(a, whole(1)))
		}
		return plus(m, by(whole(x.Max-x.Min), plus(a, whole(2))))
	}
	return plus(a, whole(2))
}

// ways: the products of all ways from a node down to one without kids.
func ways(t api.Tree, i int) []*big.Int {
	x := t.L[i]
	if !hasKid(x) {
		return []*big.Int{whole(1)}
	}
	l := ways(t, x.A)
	if hasTwo(x) {
		l = append(l, ways(t, x.B)...)
	}
	if x.Kind == api.Bud {
		for k := range l {
			l[k] = by(l[k], whole(x.N+1))
		}
	}
	return l
}

// want: holds what is told of a sound tree against the chapter's words; the tree stays as it was.
func want(t *testing.T, x api.Tree) {
	t.Helper()
	was := copyOf(x)
	root := len(x.L) - 1
	n := least(plus(statesUnder(x, root), whole(1)))
	p := least(slices.MaxFunc(ways(x, root), (*big.Int).Cmp))
	large := by(whole(n), whole(p)).Cmp(whole(api.MaxWeight)) > 0
	wantSizes(t, x, n, p, large)
	if !reflect.DeepEqual(x, was) {
		t.Fatalf("%v became %v", was, x)
	}
}

// wantSizes: these numbers are told.
func wantSizes(t *testing.T, x api.Tree, n, p int, large bool) {
	t.Helper()
	if States(x) != n || Product(x) != p || Large(x) != large {
		t.Fatalf("%d nodes, %v: %d %d %v, not %d %d %v", len(x.L), tail(x), States(x), Product(x), Large(x), n, p, large)
	}
}

// tail: the last nodes of a tree, for a message.
func tail(x api.Tree) []api.Node {
	return x.L[max(0, len(x.L)-12):]
}

// timesOf: how often a Rep may be, least and most; budgets: those of a Bud.
var (
	timesOf = [][2]int{{0, 0}, {0, -1}, {1, -1}, {2, -1}, {0, 1}, {1, 1}, {2, 2}, {0, 3}, {2, 3}, {1, 4}}
	budgets = []int{0, 1, 4}
)

// every: all good trees of n nodes (but for the numbers of groups), of these times and budgets.
func every(n int) []api.Tree {
	if n == 1 {
		return []api.Tree{of(bare(api.Empty)), of(bare(api.Set)), of(bare(api.Bol)), of(bare(api.Eol))}
	}
	var out []api.Tree
	for _, x := range every(n - 1) {
		out = append(out, over(x, group(0)))
		for _, m := range timesOf {
			out = append(out, over(x, rep(0, m[0], m[1])))
		}
		for _, m := range budgets {
			out = append(out, over(x, bud(0, m)))
		}
	}
	for m := 1; m <= n-2; m++ {
		for _, x := range every(m) {
			for _, y := range every(n - 1 - m) {
				out = append(out, joined(api.Cat, x, y), joined(api.Alt, x, y))
			}
		}
	}
	return out
}

// unfolded: the kinds of all nodes of what node i stands for, its Reps being without bound alone: a tree that no Rep makes greater than it looks.
func unfolded(t api.Tree, i int) []int {
	x := t.L[i]
	if !hasKid(x) {
		return []int{x.Kind}
	}
	a := unfolded(t, x.A)
	switch {
	case hasTwo(x):
		return append(append(a, unfolded(t, x.B)...), x.Kind)
	case x.Kind != api.Rep:
		return append(a, x.Kind)
	}
	return repeats(x, a)
}

// repeats: those of a Rep of a kid that has these: Cats of it, then of what may be left out.
func repeats(x api.Node, a []int) []int {
	var l []int
	for range x.Min {
		l = append(append(l, a...), api.Cat)
	}
	if x.Max == -1 {
		return append(append(l, a...), api.Rep)
	}
	for range x.Max - x.Min {
		l = append(append(l, a...), api.Cat, api.Empty, api.Alt)
	}
	if len(l) == 0 {
		return []int{api.Empty}
	}
	return l
}

// counted: one state more than such nodes have, each by itself.
func counted(kinds []int) int {
	n := 1
	for _, kind := range kinds {
		switch kind {
		case api.Cat:
		case api.Cap, api.Bud:
			n += 2
		default:
			n++
		}
	}
	return n
}

// P11.1, P11.2: all small trees, by the chapter's words; and States, as if each time of a Rep were written out.
func TestAllTrees(t *testing.T) {
	for n := 1; n <= 4; n++ {
		for _, x := range every(n) {
			want(t, x)
			if m := counted(unfolded(x, n-1)); m != States(x) {
				t.Fatalf("%v: %d states, written out %d", x, States(x), m)
			}
		}
	}
}

// P11.1: what a tree is to be told of need not be good: only sound.
func TestSoundAlone(t *testing.T) {
	set := bare(api.Set)
	for _, x := range []api.Tree{
		of(set, bud(0, 4), bare(api.Bol), two(api.Cat, 2, 1), api.Node{Kind: api.Cap, A: 3, N: 7}),
		of(set, set, bud(0, 2), bud(1, 3), two(api.Alt, 3, 2)),
		of(set, set, set, rep(1, 2, 3), two(api.Cat, 3, 0), two(api.Alt, 2, 4), group(5), group(6)),
		of(bare(api.Eol), bud(0, 9), bare(api.Empty), bud(2, 3), bud(3, 3), two(api.Cat, 4, 1)),
	} {
		if !tree.Sound(x) || tree.Good(x) {
			t.Fatalf("%v is good, or not sound", x)
		}
		want(t, x)
	}
}

// P11.1, P11.2: of what is not sound there is nothing: each tree with a fault somewhere.
func TestNotSound(t *testing.T) {
	set := bare(api.Set)
	for _, x := range []api.Tree{
		{}, of([]api.Node{}...), of(set, set), of(two(api.Cat, 1, 2)), of(two(api.Cat, 0, 0)), of(set, two(api.Alt, 0, 0)), of(set, group(0), group(0)), of(rep(-1, 0, 1)), of(set, bud(math.MaxInt, 1)), of(set, bud(math.MinInt, 1)),
		of(set, rep(0, -1, -1)), of(set, rep(0, 0, -2)), of(set, rep(0, 3, 2)), of(set, rep(0, 0, 256)), of(set, rep(0, 256, -1)), of(set, bud(0, 256)), of(set, bud(0, -1)), of(set, bud(0, math.MaxInt)), of(set, rep(0, 0, math.MaxInt)), of(set, rep(0, math.MinInt, math.MaxInt)),
		of(api.Node{Kind: api.Cap, N: 1}), of(set, api.Node{Kind: api.Cap}), of(set, api.Node{Kind: api.Cap, N: 100}), of(bare(0)), of(bare(10)), of(bare(-1)), of(api.Node{Kind: api.Set, Set: []api.Rng{{Lo: 2, Hi: 1}}}), of(api.Node{Kind: api.Empty, N: 1}),
	} {
		wantSizes(t, x, 0, 0, false)
	}
	base := parsed(t, "(a{~1}|^b*){3}$(?:c{~2}){~3}")
	want(t, base)
	for i := range base.L {
		for _, spoil := range []func(x *api.Node){
			func(x *api.Node) { x.Kind = 0 },
			func(x *api.Node) { x.N = -1 },
			func(x *api.Node) { x.A = i },
			func(x *api.Node) { x.Set = []api.Rng{{Lo: 3, Hi: 4}, {Lo: 5, Hi: 6}} },
		} {
			x := copyOf(base)
			if spoil(&x.L[i]); !tree.Sound(x) {
				wantSizes(t, x, 0, 0, false)
			}
		}
		// Without the nodes behind it, and with one of these twice.
		if x := of(base.L[:i]...); !tree.Sound(x) {
			wantSizes(t, x, 0, 0, false)
		}
		wantSizes(t, of(append(slices.Clone(base.L), base.L[i])...), 0, 0, false)
	}
}

// having: a tree whose root has n states: doubled by a Rep, or one more by a Cat, for each bit of n.
func having(n int) api.Tree {
	if n == 1 {
		return of(bare(api.Set))
	}
	x := having(n / 2)
	x = over(x, rep(0, 2, 2))
	if n%2 == 1 {
		x = joined(api.Cat, x, of(bare(api.Set)))
	}
	return x
}

// near: the numbers about n.
func near(n int) []int {
	l := []int{}
	for d := -4; d <= 4; d++ {
		l = append(l, n+d)
	}
	return l
}

// P11.1: sums and products at Huge, and below and above it, of each kind of node.
func TestHugeStates(t *testing.T) {
	var counts []int
	for _, k := range []int{1, 2, 3, 254, 255, 256} {
		counts = append(counts, near(api.Huge/k)...)
	}
	for _, n := range append(counts, 2*api.Huge) {
		x := having(n)
		want(t, x)
		want(t, over(x, group(0)))
		want(t, over(over(x, bud(0, 1)), bud(0, 0)))
		for _, m := range [][2]int{{0, 0}, {0, 1}, {0, 2}, {0, -1}, {1, 1}, {1, 2}, {1, -1}, {2, -1}, {2, 3}, {3, 3}, {0, 255}, {254, 255}, {255, 255}, {253, -1}, {254, -1}, {255, -1}} {
			y := over(x, rep(0, m[0], m[1]))
			want(t, y)
			want(t, over(y, rep(0, 255, 255)))
			want(t, over(y, rep(0, 0, 0)))
		}
	}
	for _, n := range []int{1, 2, 500, api.Huge / 2, api.Huge - 1} {
		x := having(n)
		for _, m := range append(near(api.Huge-n), api.Huge, 2*api.Huge) {
			if m >= 1 {
				want(t, joined(api.Cat, x, having(m)))
				want(t, joined(api.Alt, having(m), x))
			}
		}
	}
}

// within: Buds within one another, the first budget outermost.
func within(budgets ...int) api.Tree {
	x := of(bare(api.Empty))
	for _, n := range slices.Backward(budgets) {
		x = over(x, bud(0, n))
	}
	return x
}

// P11.1: products at Huge, and below and above it; of ways side by side the greatest one.
func TestHugeProduct(t *testing.T) {
	for _, c := range []struct {
		x api.Tree
		p int
	}{
		{within(0, 0, 0, 0), 1}, {within(255, 255, 255), 1 << 24}, {within(255, 255, 255, 62), 63 << 24}, {within(255, 255, 255, 63), api.Huge}, {within(63, 255, 255, 255), api.Huge}, {within(255, 255, 255, 64), api.Huge}, {within(255, 255, 255, 63, 0), api.Huge}, {within(1, 255, 255, 255, 63), api.Huge},
		{within(255, 255, 255, 255, 255, 255, 255, 255, 255, 255), api.Huge}, {within(254, 255, 255, 63), 255 << 22}, {within(32, 30, 10, 150, 74, 1), 33 * 31 * 11 * 151 * 75 * 2},
	} {
		want(t, c.x)
		if Product(c.x) != c.p {
			t.Errorf("%v: %d, not %d", c.x, Product(c.x), c.p)
		}
		for _, y := range []api.Tree{within(), within(254, 255, 255, 63), within(255, 255, 255, 63), within(255, 255, 255, 255)} {
			for _, kind := range []int{api.Cat, api.Alt} {
				z := joined(kind, c.x, y)
				want(t, z)
				want(t, joined(kind, y, c.x))
				want(t, over(over(over(z, group(0)), rep(0, 0, 0)), bud(0, 1)))
			}
		}
	}
}

// P11.2: the edge of what is large, for each budget, and for several within one another.
func TestLargeEdge(t *testing.T) {
	for b := 0; b <= api.MaxBudget; b++ {
		n := api.MaxWeight / (b + 1)
		// The Bud has 2 of the states, and 1 there is of each tree.
		wantSizes(t, over(having(n-3), bud(0, b)), n, b+1, false)
		wantSizes(t, over(having(n-2), bud(0, b)), n+1, b+1, true)
	}
	for _, k := range []int{1, 2, 3, 5, 7, 15} {
		x := having(api.MaxWeight/((k+1)*(k+1)*2) - 7)
		for _, b := range []int{k, 1, k} {
			x = over(x, bud(0, b))
		}
		n := api.MaxWeight / ((k + 1) * (k + 1) * 2)
		wantSizes(t, x, n, (k+1)*(k+1)*2, false)
		wantSizes(t, joined(api.Cat, x, of(bare(api.Set))), n+1, (k+1)*(k+1)*2, true)
	}
	wantSizes(t, having(api.MaxWeight-1), api.MaxWeight, 1, false)
	wantSizes(t, having(api.MaxWeight), api.MaxWeight+1, 1, true)
}

// P11.2: the two are multiplied as whole numbers: no product is so great that it seems small.
func TestLargeIsWhole(t *testing.T) {
	huge := within(255, 255, 255, 63)
	for _, n := range []int{1 << 29, api.Huge - 1, api.Huge, api.Huge + 1} {
		for _, b := range []int{0, 1, 3, 7, 15, 255} {
			wantSizes(t, over(having(n), bud(0, b)), min(n+3, api.Huge), b+1, true)
		}
		wantSizes(t, joined(api.Cat, having(n), huge), min(n+10, api.Huge), api.Huge, true)
	}
	for k := 20; k <= 30; k++ {
		x := of(bare(api.Empty))
		for range k {
			x = over(x, bud(0, 1))
		}
		wantSizes(t, x, 2*k+2, 1<<k, true)
		// Where the product is the greatest budgets' alone, it does not matter what stands beside them.
		wantSizes(t, joined(api.Alt, having(1<<k-5-2*k), x), 1<<k-2, 1<<k, true)
	}
}

// P11.1, P11.2: patterns as they are written.
func TestPatterns(t *testing.T) {
	for _, c := range []struct {
		s     string
		n, p  int
		large bool
	}{
		{"", 2, 1, false}, {".", 2, 1, false}, {"^", 2, 1, false}, {"$", 2, 1, false}, {"[^a-z]", 2, 1, false}, {"abc", 4, 1, false}, {"a|b|c", 6, 1, false}, {"|", 4, 1, false}, {"(?:)", 2, 1, false}, {"()", 4, 1, false}, {"((a))", 6, 1, false},
		{"a*", 3, 1, false}, {"a+", 4, 1, false}, {"a?", 4, 1, false}, {"a{4}", 5, 1, false}, {"a{4,}", 7, 1, false}, {"a{4,6}", 11, 1, false}, {"a{0,4}", 13, 1, false}, {"a{0}", 2, 1, false}, {"(abc){0}", 2, 1, false}, {"(?:abc){0,0}", 2, 1, false},
		{"a{~0}", 4, 1, false}, {"a{~255}", 4, 256, false}, {"(a{~1}b){~2}", 9, 6, false}, {"a{~3}b{~5}c{~4}", 10, 6, false}, {"(?:a{~3}|b{~5}){~1}", 10, 12, false}, {"(?:a{~9}){0}", 2, 10, false}, {"(?:a{~1}){3}", 10, 2, false},
		{"a{255}{255}{255}", 16581376, 1, true}, {"a{255,}{255,}{255,}{255,}", api.Huge, 1, true}, {"(?:a{255}{16}aaaaaaaaaaaaa){~255}", 4096, 256, false}, {"(?:a{255}{16}aaaaaaaaaaaaaa){~255}", 4097, 256, true},
	} {
		x := parsed(t, c.s)
		want(t, x)
		wantSizes(t, x, c.n, c.p, c.large)
	}
}

// P11.1, P11.2: trees of many levels are asked as others are.
func TestDeep(t *testing.T) {
	const levels = 1 << 16
	set := bare(api.Set)
	groups, buds, left, right, thrice := of(set), of(set), of(set), of(), of(set)
	for i := range levels {
		groups.L = append(groups.L, group(i))
		buds.L = append(buds.L, bud(i, i%2))
		left.L = append(left.L, set, two(api.Alt, 2*i, 2*i+1))
		right.L = append(right.L, set)
		thrice.L = append(thrice.L, rep(i, 3, 3))
	}
	for i := range levels - 1 {
		right.L = append(right.L, two(api.Cat, levels-2-i, levels-1+i))
	}
	wantSizes(t, groups, 2*levels+2, 1, false)
	wantSizes(t, buds, 2*levels+2, api.Huge, true)
	wantSizes(t, left, 2*levels+2, 1, false)
	wantSizes(t, right, levels+1, 1, false)
	wantSizes(t, thrice, api.Huge, 1, true)
}

// The chapter's example.
func TestExample(t *testing.T) {
	wantSizes(t, parsed(t, "(a{~1}b){~2}"), 9, 6, false)
}
