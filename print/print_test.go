package print

import (
	"fmt"
	"math"
	"reflect"
	"slices"
	"strings"
	"testing"

	"obelus/api"
	"obelus/parse"
	"obelus/tree"
)

// of, bare, two, rep, group, bud: trees and nodes in short.
func of(l ...api.Node) api.Tree { return api.Tree{L: l} }

func bare(kind int) api.Node      { return api.Node{Kind: kind} }
func two(kind, a, b int) api.Node { return api.Node{Kind: kind, A: a, B: b} }
func rep(a, m, n int) api.Node    { return api.Node{Kind: api.Rep, A: a, Min: m, Max: n} }
func group(a, n int) api.Node     { return api.Node{Kind: api.Cap, A: a, N: n} }
func bud(a, n int) api.Node       { return api.Node{Kind: api.Bud, A: a, N: n} }

// sym: the set of one symbol.
func sym(x int) api.Node {
	return api.Node{Kind: api.Set, Set: []api.Rng{{Lo: x, Hi: x}}}
}

// copyOf: a tree that shares nothing with t.
func copyOf(t api.Tree) api.Tree {
	l := slices.Clone(t.L)
	for i := range l {
		l[i].Set = slices.Clone(l[i].Set)
	}
	return api.Tree{L: l}
}

// parsed: the tree of a pattern without a fault.
func parsed(t *testing.T, s string) api.Tree {
	t.Helper()
	x, f := parse.Parse(s)
	if f.Err != api.OK {
		t.Fatalf("%q: %v", s, f)
	}
	return x
}

// wantText: Text tells this, and leaves the tree as it is.
func wantText(t *testing.T, x api.Tree, want string) {
	t.Helper()
	was := copyOf(x)
	if got := Text(x); got != want {
		t.Fatalf("%v: %q, not %q", x, got, want)
	}
	if !reflect.DeepEqual(x, was) {
		t.Fatalf("%v became %v", was, x)
	}
}

// wantAgain: P10.2: the tree's text is parsed as the tree.
func wantAgain(t *testing.T, x api.Tree) {
	t.Helper()
	if y, f := parse.Parse(Text(x)); f.Err != api.OK || !tree.Same(x, y) {
		t.Fatalf("%v: %q is parsed as %v %v", x, Text(x), y, f)
	}
}

// all: every text of at most n of these pieces.
func all(n int, pieces []string, do func(s string)) {
	var grown func(s string, n int)
	grown = func(s string, n int) {
		do(s)
		if n > 0 {
			for _, p := range pieces {
				grown(s+p, n-1)
			}
		}
	}
	grown("", n)
}

// closing: where the group that opens at a place of a pattern without classes and escapes closes.
func closing(s string, at int) int {
	open := 0
	for i := at; ; i++ {
		switch s[i] {
		case '(':
			open++
		case ')':
			open--
		}
		if open == 0 {
			return i
		}
	}
}

// bareOf: a pattern without those of its groups without numbers whose loss
// changes nothing of its tree x.
func bareOf(s string, x api.Tree) string {
	for at := 0; at < len(s); {
		if strings.HasPrefix(s[at:], "(?:") {
			end := closing(s, at)
			less := s[:at] + s[at+3:end] + s[end+1:]
			if y, f := parse.Parse(less); f.Err == api.OK && tree.Same(x, y) {
				s = less
				continue
			}
		}
		at++
	}
	return s
}

// P10.1, P10.2: groups stand about just those kids that would be another tree
// without: all short rows of words as they stand, without the groups that can go.
func TestNoGroupCanGo(t *testing.T) {
	ask := func(s string) {
		x, f := parse.Parse(s)
		if f.Err != api.OK {
			return
		}
		wantText(t, x, bareOf(s, x))
		wantAgain(t, x)
	}
	all(7, []string{"a", "(?:", ")", "|", "*", "("}, ask)
	all(5, []string{"a", "(", "(?:", ")", "|", "+", "?", "{2}", "{4,}", "{2,3}", "{~5}", "^", "$", "."}, ask)
	all(5, []string{"(?:a|b)", "(?:ab)", "(?:)", "(?:", ")", "|", "{~0}", "()"}, ask)
}

// kinds: every kind of node as a kid, with the text that it has by itself.
func kinds() map[string][]api.Node {
	return map[string][]api.Node{
		"":       {bare(api.Empty)},
		"a":      {sym('a')},
		"^":      {bare(api.Bol)},
		"$":      {bare(api.Eol)},
		"ab":     {sym('a'), sym('b'), two(api.Cat, 0, 1)},
		"a|b":    {sym('a'), sym('b'), two(api.Alt, 0, 1)},
		"a{2,3}": {sym('a'), rep(0, 2, 3)},
		"(a)":    {sym('a'), group(0, 1)},
		"a{~7}":  {sym('a'), bud(0, 7)},
	}
}

// onto: two lists of nodes, the numbers of the second one's kids and groups as they are behind the first one.
func onto(a, b []api.Node) []api.Node {
	l := slices.Clone(a)
	for _, x := range b {
		switch x.Kind {
		case api.Cat, api.Alt:
			x.A, x.B = x.A+len(a), x.B+len(a)
		case api.Rep, api.Bud:
			x.A += len(a)
		case api.Cap:
			x.A, x.N = x.A+len(a), x.N+tree.Caps(of(a...))
		}
		l = append(l, x)
	}
	return l
}

// P10.1: every kind of node on every kind of node; groups stand about the kids that the chapter lists.
func TestKidsOfAllKinds(t *testing.T) {
	about := func(text string, listed ...string) string {
		if slices.Contains(listed, text) {
			return "(?:" + text + ")"
		}
		return text
	}
	for text, l := range kinds() {
		root := len(l) - 1
		wantText(t, of(l...), text)
		much := about(text, "", "ab", "a|b")
		wantText(t, of(append(slices.Clone(l), rep(root, 0, -1))...), much+"*")
		wantText(t, of(append(slices.Clone(l), bud(root, 255))...), much+"{~255}")
		if tree.Caps(of(l...)) == 0 {
			wantText(t, of(append(slices.Clone(l), group(root, 1))...), "("+text+")")
		}
		for other, m := range kinds() {
			pair := onto(l, m)
			end := len(pair) - 1
			wantText(t, of(append(slices.Clone(pair), two(api.Cat, root, end))...), about(text, "", "a|b")+about(other, "", "ab", "a|b"))
			wantText(t, of(append(slices.Clone(pair), two(api.Alt, root, end))...), text+"|"+about(other, "a|b"))
			wantAgain(t, of(append(slices.Clone(pair), two(api.Cat, root, end))...))
			wantAgain(t, of(append(slices.Clone(pair), two(api.Alt, root, end))...))
		}
	}
}

// P10.1: how often, of all numbers that may be, and budgets.
func TestNumbers(t *testing.T) {
	short := map[[2]int]string{{0, -1}: "*", {1, -1}: "+", {0, 1}: "?"}
	ask := func(m, n int, want string) {
		if s, ok := short[[2]int{m, n}]; ok {
			want = s
		}
		wantText(t, of(sym('a'), rep(0, m, n)), "a"+want)
		wantAgain(t, of(sym('a'), rep(0, m, n)))
	}
	for m := range api.MaxRep + 1 {
		ask(m, -1, fmt.Sprintf("{%d,}", m))
		ask(m, m, fmt.Sprintf("{%d}", m))
		for n := m + 1; n <= api.MaxRep; n++ {
			ask(m, n, fmt.Sprintf("{%d,%d}", m, n))
		}
	}
	for k := range api.MaxBudget + 1 {
		wantText(t, of(sym('a'), bud(0, k)), fmt.Sprintf("a{~%d}", k))
		wantAgain(t, of(sym('a'), bud(0, k)))
	}
}

// P10.1: trees by hand.
func TestTrees(t *testing.T) {
	a, b, c := sym('a'), sym('b'), sym('c')
	for _, x := range []struct {
		want string
		t    api.Tree
	}{
		{"a(?:bc)", of(a, b, c, two(api.Cat, 1, 2), two(api.Cat, 0, 3))},
		{"abc", of(a, b, two(api.Cat, 0, 1), c, two(api.Cat, 2, 3))},
		{"a|(?:b|c)", of(a, b, c, two(api.Alt, 1, 2), two(api.Alt, 0, 3))},
		{"a|b|c", of(a, b, two(api.Alt, 0, 1), c, two(api.Alt, 2, 3))},
		{"a{~1}*", of(a, bud(0, 1), rep(1, 0, -1))},
		{"a*{~1}", of(a, rep(0, 0, -1), bud(1, 1))},
		{"a**", of(a, rep(0, 0, -1), rep(1, 0, -1))},
		{"a{~1}{~2}", of(a, bud(0, 1), bud(1, 2))},
		{"(a|){2}", of(a, bare(api.Empty), two(api.Alt, 0, 1), group(2, 1), rep(3, 2, 2))},
		{"((a)())(b)", parsed(t, "((a)())(b)")},
		{"((?:)?)", of(bare(api.Empty), rep(0, 0, 1), group(1, 1))},
		{"||", of(bare(api.Empty), bare(api.Empty), two(api.Alt, 0, 1), bare(api.Empty), two(api.Alt, 2, 3))},
		{"|(?:|)", of(bare(api.Empty), bare(api.Empty), bare(api.Empty), two(api.Alt, 1, 2), two(api.Alt, 0, 3))},
		{"(?:)(?:)", of(bare(api.Empty), bare(api.Empty), two(api.Cat, 0, 1))},
		{"ab|^$", of(a, b, two(api.Cat, 0, 1), bare(api.Bol), bare(api.Eol), two(api.Cat, 3, 4), two(api.Alt, 2, 5))},
	} {
		wantText(t, x.t, x.want)
		wantAgain(t, x.t)
	}
}

// P10.1: all short rows of nodes: of those that are no good trees nothing is told.
func TestRowsOfNodes(t *testing.T) {
	choices := []api.Node{bare(api.Empty), sym('a'), {Kind: api.Set}}
	for a := -1; a <= 3; a++ {
		choices = append(choices, group(a, 1), group(a, 2), bud(a, 1), rep(a, 2, 1), rep(a, 1, 2))
		for b := -1; b <= 3; b++ {
			choices = append(choices, two(api.Cat, a, b), two(api.Alt, a, b))
		}
	}
	good := 0
	var rows func(l []api.Node)
	rows = func(l []api.Node) {
		x := of(l...)
		switch {
		case !tree.Good(x):
			if got := Text(x); got != "" {
				t.Fatalf("%v: %q", x, got)
			}
		default:
			good++
			wantAgain(t, x)
		}
		if len(l) < 3 {
			for _, y := range choices {
				rows(append(slices.Clone(l), y))
			}
		}
	}
	rows(nil)
	if good < 50 {
		t.Error("good trees:", good)
	}
}

// P10.1: trees with one thing wrong, by hand.
func TestNotGood(t *testing.T) {
	a := sym('a')
	ranges := func(l ...api.Rng) api.Tree { return of(api.Node{Kind: api.Set, Set: l}) }
	for i, x := range []api.Tree{
		{}, {L: []api.Node{}}, of(bare(0)), of(bare(10)), of(bare(-1)), of(a, a), of(a, bare(api.Empty)),
		of(two(api.Cat, 0, 0)), of(a, two(api.Cat, 0, 0)), of(a, a, two(api.Cat, 1, 0)), of(a, a, two(api.Alt, 0, 2)), of(a, rep(1, 0, 1)), of(rep(-1, 0, 1)),
		of(a, a, two(api.Alt, 0, math.MaxInt)), of(a, bud(math.MinInt, 0)), of(a, a, rep(0, 0, 1), two(api.Cat, 1, 2)),
		of(a, rep(0, -1, 1)), of(a, rep(0, 2, 1)), of(a, rep(0, 0, -2)), of(a, rep(0, 256, -1)), of(a, rep(0, 0, 256)), of(a, rep(0, math.MinInt, math.MaxInt)),
		of(a, bud(0, -1)), of(a, bud(0, 256)), of(a, group(0, 0)), of(a, group(0, 2)), of(a, group(0, 100)), of(a, group(0, 1), group(1, 2)), of(a, group(0, 1), group(1, 1)),
		of(a, group(0, 2), a, group(2, 1), two(api.Cat, 1, 3)),
		ranges(api.Rng{Lo: 2, Hi: 1}), ranges(api.Rng{Lo: -1, Hi: 1}), ranges(api.Rng{Lo: 0xd800, Hi: 0xd800}), ranges(api.Rng{Lo: 0, Hi: 0x110000}), ranges(api.Rng{Lo: 0, Hi: api.MaxSym + 1}),
		ranges(api.Rng{Lo: 'b', Hi: 'b'}, api.Rng{Lo: 'a', Hi: 'a'}), ranges(api.Rng{Lo: 'a', Hi: 'a'}, api.Rng{Lo: 'b', Hi: 'b'}), ranges(api.Rng{Lo: 'a', Hi: 'c'}, api.Rng{Lo: 'b', Hi: 'd'}), ranges(api.Rng{Lo: 0xd7ff, Hi: 0xd7ff}, api.Rng{Lo: 0xe000, Hi: 0xe000}),
		of(api.Node{Kind: api.Set, N: 1}), of(api.Node{Kind: api.Bol, A: 1}), of(api.Node{Kind: api.Empty, Set: []api.Rng{{}}}), of(a, api.Node{Kind: api.Bud, Min: 1}), of(a, api.Node{Kind: api.Cap, N: 1, B: 1}),
	} {
		if got := Text(x); got != "" {
			t.Errorf("%d: %v: %q", i, x, got)
		}
	}
}

// level: x under an Alt under a Rep: one group more.
func level(x []api.Node) []api.Node {
	at := len(x)
	return append(x, sym('b'), two(api.Alt, at-1, at), rep(at+1, 0, -1))
}

// P10.2: groups within one another up to the bound and above it, written and put about kids.
func TestDeep(t *testing.T) {
	l := []api.Node{sym('a')}
	for deep := 1; deep <= api.MaxDeep+1; deep++ {
		l = level(l)
		want := strings.Repeat("(?:", deep) + "a" + strings.Repeat("|b)*", deep)
		wantText(t, of(l...), want)
		y, f := parse.Parse(want)
		if deep <= api.MaxDeep && (f.Err != api.OK || !tree.Same(of(l...), y)) || deep > api.MaxDeep && f.Err != api.ErrDeep {
			t.Errorf("%d levels: %v", deep, f)
		}
	}
	for _, s := range []string{
		strings.Repeat("(", api.MaxDeep) + "a" + strings.Repeat(")", api.MaxDeep),
		strings.Repeat("(?:a", api.MaxDeep) + strings.Repeat(")*", api.MaxDeep),
		strings.Repeat("(a|", api.MaxDeep) + strings.Repeat("){~1}", api.MaxDeep),
		strings.Repeat("a(?:b", api.MaxDeep) + strings.Repeat("c)", api.MaxDeep),
		strings.Repeat("(a)", api.MaxCaps),
	} {
		x := parsed(t, s)
		wantText(t, x, bareOf(s, x))
		wantAgain(t, x)
	}
}

// P10.1: long trees, and trees deeper than groups may stand.
func TestLong(t *testing.T) {
	const n = 1 << 16
	for _, s := range []string{
		strings.Repeat("a", n), strings.Repeat("|", n), "a" + strings.Repeat("*", n), "a" + strings.Repeat("{~3}", n), strings.Repeat("(?:a|b)", n), strings.Repeat("[a-c]\\n", n),
	} {
		x := parsed(t, s)
		if got := Text(x); got != s {
			t.Errorf("%.9q ..: %d bytes, not %d", s, len(got), len(s))
		}
	}
	right := make([]api.Node, 0, 2*n+1)
	for range n + 1 {
		right = append(right, sym('a'))
	}
	for i := range n {
		right = append(right, two(api.Cat, n-1-i, n+i))
	}
	want := strings.Repeat("a(?:", n-1) + "aa" + strings.Repeat(")", n-1)
	if got := Text(of(right...)); got != want {
		t.Errorf("%d bytes, not %d", len(got), len(want))
	}
}

// R1: the same call tells the same.
func TestSameAgain(t *testing.T) {
	x := parsed(t, "(a|[b-d\xff]){~2}*(?:)(^|$)")
	first := Text(x)
	for range 10 {
		wantText(t, x, first)
	}
}

// P10.2: of what is parsed the text is parsed as it, and is its own text.
func FuzzText(f *testing.F) {
	for _, s := range []string{"", "(a|){2}", "a(?:bc)", "[\xe2\x82\xe2\x82\xac]", "[^\\]-\xff]", "(?:a|b{0,1})*{~007}", "\xc3[\xc3]\xa9\xff", "[\\d\\D]\\W.", "((?:)?|(?:x|y))"} {
		f.Add(s)
	}
	f.Fuzz(func(t *testing.T, s string) {
		x, fault := parse.Parse(s)
		if fault.Err != api.OK {
			return
		}
		text := Text(x)
		y, fault := parse.Parse(text)
		if fault.Err != api.OK || !tree.Same(x, y) || Text(y) != text {
			t.Errorf("%q: %q is parsed as %v %v, not %v", s, text, y, fault, x)
		}
	})
}
