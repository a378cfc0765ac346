package parse

import (
	"cmp"
	"regexp"
	"slices"
	"strings"
	"testing"

	"obelus/api"
	"obelus/lex"
	"obelus/tree"
)

// word: one word at a text's beginning, by chapter 7.
var word = regexp.MustCompile(`^(?s:\(\?:|[()|*+?.^$]|\{\d+\}|\{\d+,\}|\{\d+,\d+\}|\{~\d+\}|\[(\\.|[^\]\\])*\]|\\.|[^\\()\[\]{}.*+?|^$])`)

// split: the words of a text from the left, each held by itself, as far as they end at the place end or ahead of it.
func split(t *testing.T, s string, end int) []api.Tok {
	var l []api.Tok
	for at := 0; at < end; {
		n := len(word.FindString(s[at:]))
		if n == 0 || at+n > end {
			return l
		}
		one, f := lex.Tokens(s[at : at+n])
		if len(one) != 1 || f.Err != api.OK {
			t.Fatalf("%q: the word at %d is none: %v", s, at, f)
		}
		one[0].At = at
		l = append(l, one[0])
		at += n
	}
	return l
}

// isAtom: does an atom end at a word of this kind, or at what is said of it?
func isAtom(kind int) bool {
	return slices.Contains([]int{api.TSet, api.TBol, api.TEol, api.TClose, api.TRep, api.TBud}, kind)
}

// faults: all faults that the chapter names, in its order; what stands ahead of a word is asked word by word.
func faults(t *testing.T, s string) []api.Fault {
	_, cut := lex.Tokens(s)
	var l []api.Fault
	end := len(s)
	if cut.Err != api.OK {
		l = append(l, cut)
		end = cut.At
	}
	open, caps := 0, 0
	words := split(t, s, end)
	for i, w := range words {
		switch w.Kind {
		case api.TRep, api.TBud:
			if i == 0 || !isAtom(words[i-1].Kind) {
				l = append(l, api.Fault{Err: api.ErrSyntax, At: w.At})
			}
		case api.TClose:
			if open == 0 {
				l = append(l, api.Fault{Err: api.ErrSyntax, At: w.At})
			} else {
				open--
			}
		case api.TOpen, api.TPlain:
			if open >= 64 {
				l = append(l, api.Fault{Err: api.ErrDeep, At: w.At})
			}
			open++
			if w.Kind == api.TOpen {
				caps++
			}
			if w.Kind == api.TOpen && caps == 100 {
				l = append(l, api.Fault{Err: api.ErrNumber, At: w.At})
			}
		}
	}
	if cut.Err == api.OK && open > 0 {
		l = append(l, api.Fault{Err: api.ErrSyntax, At: len(s)})
	}
	return l
}

// fault: the one with the least place; of several at one place the one named first.
func fault(t *testing.T, s string) api.Fault {
	l := faults(t, s)
	if len(l) == 0 {
		return api.Fault{}
	}
	slices.SortStableFunc(l, func(a, b api.Fault) int { return cmp.Compare(a.At, b.At) })
	return l[0]
}

// cuts: the pieces of words between those that at tells of, of those outside of all groups.
func cuts(words []api.Tok, at func(kind int) bool) [][]api.Tok {
	var pieces [][]api.Tok
	from, open := 0, 0
	for i, w := range words {
		if w.Kind == api.TClose {
			open--
		}
		if open == 0 && i > from && at(w.Kind) {
			pieces = append(pieces, words[from:i])
			from = i
		}
		if w.Kind == api.TOpen || w.Kind == api.TPlain {
			open++
		}
	}
	return append(pieces, words[from:])
}

// grow: the tree of words without faults, by cutting them up; caps is how many groups begin ahead of them.
func grow(words []api.Tok, caps int) []api.Node {
	bars := cuts(append([]api.Tok{{Kind: api.TBar}}, words...), func(kind int) bool { return kind == api.TBar })
	if len(bars) > 1 {
		last := bars[len(bars)-1]
		ahead := words[:len(words)-len(last)]
		return join(api.Alt, ahead, last[1:], caps)
	}
	if len(words) == 0 {
		return []api.Node{{Kind: api.Empty}}
	}
	reps := cuts(words, func(kind int) bool {
		return kind != api.TRep && kind != api.TBud && kind != api.TClose
	})
	if len(reps) > 1 {
		last := reps[len(reps)-1]
		return join(api.Cat, words[:len(words)-len(last)], last, caps)
	}
	return about(words, caps)
}

// join: a node of two kids.
func join(kind int, ahead, behind []api.Tok, caps int) []api.Node {
	l := grow(ahead, caps)
	for _, w := range ahead {
		if w.Kind == api.TOpen {
			caps++
		}
	}
	a := len(l)
	for _, x := range grow(behind, caps) {
		l = append(l, moved(x, a))
	}
	return append(l, api.Node{Kind: kind, A: a - 1, B: len(l) - 1})
}

// moved: a node whose kids stand so much further behind.
func moved(x api.Node, by int) api.Node {
	switch x.Kind {
	case api.Cat, api.Alt:
		x.A += by
		x.B += by
	case api.Rep, api.Cap, api.Bud:
		x.A += by
	}
	return x
}

// about: the tree of one rep.
func about(words []api.Tok, caps int) []api.Node {
	last := len(words) - 1
	switch w := words[last]; w.Kind {
	case api.TSet:
		return []api.Node{{Kind: api.Set, Set: w.Set}}
	case api.TBol:
		return []api.Node{{Kind: api.Bol}}
	case api.TEol:
		return []api.Node{{Kind: api.Eol}}
	case api.TRep:
		l := grow(words[:last], caps)
		return append(l, api.Node{Kind: api.Rep, A: len(l) - 1, Min: w.Min, Max: w.Max})
	case api.TBud:
		l := grow(words[:last], caps)
		return append(l, api.Node{Kind: api.Bud, A: len(l) - 1, N: w.Min})
	}
	if words[0].Kind == api.TPlain {
		return grow(words[1:last], caps)
	}
	l := grow(words[1:last], caps+1)
	return append(l, api.Node{Kind: api.Cap, A: len(l) - 1, N: caps + 1})
}

// wrapped: the tree of a pattern with a group of its own about it.
func wrapped(x api.Tree) api.Tree {
	l := slices.Clone(x.L)
	for i := range l {
		if l[i].Kind == api.Cap {
			l[i].N++
		}
	}
	return api.Tree{L: append(l, api.Node{Kind: api.Cap, A: len(l) - 1, N: 1})}
}

// ask: holds what Parse tells of a pattern against the chapter's words.
func ask(t *testing.T, s string) {
	t.Helper()
	x, f := Parse(s)
	want := fault(t, s)
	if f != want {
		t.Fatalf("%q: %v, not %v", s, f, want)
	}
	if f.Err != api.OK {
		if x.L != nil {
			t.Fatalf("%q: a tree beside a fault: %v", s, x)
		}
		return
	}
	if same := (api.Tree{L: grow(split(t, s, len(s)), 0)}); !tree.Same(x, same) {
		t.Fatalf("%q: %v, not %v", s, x, same)
	}
	if !tree.Good(x) {
		t.Fatalf("%q: not good: %v", s, x)
	}
}

// all: every text of at most n of these pieces.
func all(n int, pieces []string, do func(s string)) {
	var grown func(s string, n int)
	grown = func(s string, n int) {
		do(s)
		if n > 0 {
			for _, p := range pieces {
				grown(s+p, n-1)
			}
		}
	}
	grown("", n)
}

// nest: so many groups within one another.
func nest(open string, n int) string {
	return strings.Repeat(open, n) + "a" + strings.Repeat(")", n)
}

// P9.1: all short rows of words, sound and broken ones.
func TestRowsOfWords(t *testing.T) {
	all(6, []string{"a", "(", "(?:", ")", "|", "*", "^"}, func(s string) { ask(t, s) })
	all(4, []string{"a", "(", "(?:", ")", "|", "+", "?", "{2,3}", "{4,}", "{~5}", "^", "$", ".", "[b-d]", "\\W", "\\1", "\\q", "{300}", "{~256}", "{3,2}", "[b-a]", "[", "]", "{"}, func(s string) { ask(t, s) })
}

// P9.1: all short texts of a few bytes, whatever words they are.
func TestTexts(t *testing.T) {
	all(5, strings.Split("a()|*{1}[]\\\xc3", ""), func(s string) { ask(t, s) })
	all(6, strings.Split("(?:)a{3}", ""), func(s string) { ask(t, s) })
}

// P9.1: what words become, by hand.
func TestTrees(t *testing.T) {
	a, b, c := []api.Rng{{Lo: 97, Hi: 97}}, []api.Rng{{Lo: 98, Hi: 98}}, []api.Rng{{Lo: 99, Hi: 99}}
	for _, x := range []struct {
		s string
		l []api.Node
	}{
		{"", []api.Node{{Kind: api.Empty}}},
		{"(a|){2}", []api.Node{{Kind: api.Set, Set: a}, {Kind: api.Empty}, {Kind: api.Alt, A: 0, B: 1}, {Kind: api.Cap, A: 2, N: 1}, {Kind: api.Rep, A: 3, Min: 2, Max: 2}}},
		{"a**", []api.Node{{Kind: api.Set, Set: a}, {Kind: api.Rep, A: 0, Max: -1}, {Kind: api.Rep, A: 1, Max: -1}}},
		{"a|b|c", []api.Node{{Kind: api.Set, Set: a}, {Kind: api.Set, Set: b}, {Kind: api.Alt, A: 0, B: 1}, {Kind: api.Set, Set: c}, {Kind: api.Alt, A: 2, B: 3}}},
		{"a(?:bc)", []api.Node{{Kind: api.Set, Set: a}, {Kind: api.Set, Set: b}, {Kind: api.Set, Set: c}, {Kind: api.Cat, A: 1, B: 2}, {Kind: api.Cat, A: 0, B: 3}}},
		{"^a+{~3}$", []api.Node{{Kind: api.Bol}, {Kind: api.Set, Set: a}, {Kind: api.Rep, A: 1, Min: 1, Max: -1}, {Kind: api.Bud, A: 2, N: 3}, {Kind: api.Cat, A: 0, B: 3}, {Kind: api.Eol}, {Kind: api.Cat, A: 4, B: 5}}},
		{"((a)())(b)", []api.Node{{Kind: api.Set, Set: a}, {Kind: api.Cap, A: 0, N: 2}, {Kind: api.Empty}, {Kind: api.Cap, A: 2, N: 3}, {Kind: api.Cat, A: 1, B: 3}, {Kind: api.Cap, A: 4, N: 1}, {Kind: api.Set, Set: b}, {Kind: api.Cap, A: 6, N: 4}, {Kind: api.Cat, A: 5, B: 7}}},
		{"(?:){0,255}", []api.Node{{Kind: api.Empty}, {Kind: api.Rep, A: 0, Max: 255}}},
	} {
		if got, f := Parse(x.s); f != (api.Fault{}) || !tree.Same(got, api.Tree{L: x.l}) {
			t.Errorf("%q: %v %v", x.s, got, f)
		}
	}
}

// P9.1: which fault of several is told, by hand.
func TestFaults(t *testing.T) {
	for _, c := range []struct {
		s  string
		e  api.Errno
		at int
	}{
		{"*\\1", api.ErrSyntax, 0}, {"a\\1*", api.ErrBack, 1}, {"(", api.ErrSyntax, 1}, {"(\\1", api.ErrBack, 1}, {"(a{300}", api.ErrNumber, 3}, {")a{300}", api.ErrSyntax, 0},
		{"a|{~300}", api.ErrNumber, 4}, {"{~300}", api.ErrNumber, 2}, {"{300}", api.ErrNumber, 1}, {"*{300}", api.ErrSyntax, 0}, {"(?:{2}", api.ErrSyntax, 3}, {"())[b-a]", api.ErrSyntax, 2}, {"()[b-a])", api.ErrSyntax, 3},
		{"\xc3\xa9(\xc3\xa9", api.ErrSyntax, 5}, {"\xc3\xa9)", api.ErrSyntax, 2}, {"\xc3)", api.ErrSyntax, 1}, {"\xc3*\xa9**|?", api.ErrSyntax, 6},
	} {
		if x, f := Parse(c.s); x.L != nil || f != (api.Fault{Err: c.e, At: c.at}) {
			t.Errorf("%q: %v, not %v %d", c.s, f, c.e, c.at)
		}
		ask(t, c.s)
	}
}

// P9.1: groups within one another, and groups in all, about their bounds; at one word both, and with other faults about them.
func TestLimits(t *testing.T) {
	for _, n := range []int{1, 2, 63, 64, 65, 66, 99, 100, 101, 130} {
		for _, open := range []string{"(", "(?:"} {
			deep := strings.Repeat(open, n)
			flat := strings.Repeat(open+")", n)
			for _, s := range []string{nest(open, n), deep, flat, deep + "*", deep + "\\1", deep + "]", flat + ")", flat + "\\1", "*" + deep, "\\1" + deep, "[" + deep, "{" + flat, nest(open, n) + nest(open, n), flat + nest(open, 64), flat + nest(open, 65), nest(open, 64) + flat, flat + nest("(?:", 64), flat + nest("(?:", 65), nest("(?:", 63) + flat, "(" + flat + ")", "(?:" + flat + ")"} {
				ask(t, s)
			}
			ask(t, flat+strings.Repeat("(?:", 64)+"(")
			ask(t, flat+strings.Repeat("(?:", 63)+"(")
		}
	}
	at := 3*99 + 3*64
	if _, f := Parse(strings.Repeat("(a)", 99) + strings.Repeat("(?:", 64) + "("); f != (api.Fault{Err: api.ErrDeep, At: at}) {
		t.Error("too deep, and one too many, at one place:", f)
	}
	if _, f := Parse(strings.Repeat("(a)", 99) + strings.Repeat("(?:", 63) + "("); f != (api.Fault{Err: api.ErrNumber, At: at - 3}) {
		t.Error("one too many, as deep as may be:", f)
	}
}

// P9.1: long patterns, and many words about one atom.
func TestLong(t *testing.T) {
	const n = 1 << 16
	for _, c := range []struct {
		s     string
		nodes int
	}{
		{"a" + strings.Repeat("*", n), n + 1}, {"a" + strings.Repeat("{~3}", n), n + 1}, {strings.Repeat("a", n), 2*n - 1}, {strings.Repeat("|", n), 2*n + 1}, {strings.Repeat("(?:a|b)", n), 4*n - 1}, {strings.Repeat("(?:", 64) + strings.Repeat("^", n) + strings.Repeat(")", 64), 2*n - 1},
	} {
		x, f := Parse(c.s)
		if f.Err != api.OK || len(x.L) != c.nodes || !tree.Good(x) {
			t.Errorf("%q ..: %v, %d nodes, not %d", c.s[:8], f, len(x.L), c.nodes)
		}
		for end, at := range map[string]int{")": 0, "(": 1, "]": 0, "|*": 1, "a{9": 1, "(((": 3} {
			if _, f := Parse(c.s + end); f != (api.Fault{Err: api.ErrSyntax, At: len(c.s) + at}) {
				t.Errorf("%q .. %q: %v", c.s[:8], end, f)
			}
		}
	}
}

// P9.2: a group without a number about a pattern changes nothing, one with a number is a Cap ahead of all others.
func TestGroupsAbout(t *testing.T) {
	all(6, []string{"a", "(", "(?:", ")", "|", "{~2}"}, func(s string) {
		x, f := Parse(s)
		if f.Err != api.OK {
			return
		}
		if y, f := Parse("(?:" + s + ")"); f.Err != api.OK || !tree.Same(x, y) {
			t.Fatalf("%q within (?: ): %v %v", s, y, f)
		}
		if y, f := Parse("(" + s + ")"); f.Err != api.OK || !tree.Same(wrapped(x), y) {
			t.Fatalf("%q within ( ): %v %v", s, y, f)
		}
		if y, f := Parse("(?:(?:" + s + "))"); f.Err != api.OK || !tree.Same(x, y) {
			t.Fatalf("%q within (?:(?: )): %v %v", s, y, f)
		}
	})
}

// scribble: writes into all of a list, spare room too.
func scribble[T any](l []T, x T) {
	l = l[:cap(l)]
	for i := range l {
		l[i] = x
	}
}

// R1, R2: the same call tells the same, whatever was done to what was told, and no two lists of an answer share anything.
func TestNewMemory(t *testing.T) {
	const s = "a[b-dx]\\W(.|\\d)*a"
	first, _ := Parse(s)
	for i := range first.L {
		x, f := Parse(s)
		if f.Err != api.OK || !tree.Same(x, first) {
			t.Fatal("not the same again:", x, f)
		}
		scribble(x.L[i].Set, api.Rng{Lo: -1, Hi: -1})
		x.L[i] = first.L[i]
		if !tree.Same(x, first) {
			t.Fatal("sets share something with the one of node", i)
		}
		scribble(x.L, api.Node{Kind: -1})
	}
}
