package print

import (
	"fmt"
	"strings"
	"testing"

	"obelus/api"
	"obelus/sets"
	"obelus/tree"
	"obelus/utf"
)

// setOf: the tree of one set, its ranges by their ends.
func setOf(ends ...int) api.Tree {
	x := api.Node{Kind: api.Set}
	for i := 0; i+1 < len(ends); i += 2 {
		x.Set = append(x.Set, api.Rng{Lo: ends[i], Hi: ends[i+1]})
	}
	return of(x)
}

// raw: the symbol of a byte that is no part of a valid sequence.
func raw(b int) int { return api.Raw + b }

// P10.1: sets by hand.
func TestSets(t *testing.T) {
	top := api.MaxSym
	for _, x := range []struct {
		want string
		t    api.Tree
	}{
		{`[^\d\D]`, setOf()}, {`[\d\D]`, setOf(0, top)}, {".", setOf(0, 9, 11, top)},
		{"[\x00-\x08\\n-\xff]", setOf(0, 8, 10, top)}, {"[\x00-\\n\f-\xff]", setOf(0, 10, 12, top)}, {"[\x00-\\t\f-\xff]", setOf(0, 9, 12, top)}, {"[\x00-\xfe]", setOf(0, top-1)}, {"[\x01-\xff]", setOf(1, top)},
		{"[\x00-\\t\v-\xfe]", setOf(0, 9, 11, top-1)}, {"[\x01-\\t\v-\xff]", setOf(1, 9, 11, top)}, {"[\x00-\\t]", setOf(0, 9)}, {"[\v-\xff]", setOf(11, top)},
		{`\n`, setOf(10, 10)}, {`\t`, setOf(9, 9)}, {`\r`, setOf(13, 13)}, {"\v", setOf(11, 11)}, {"\x00", setOf(0, 0)}, {"\x7f", setOf(127, 127)},
		{"[\\t-\\r ]", setOf(9, 13, ' ', ' ')}, {"[\\t-\\n]", setOf(9, 10)}, {"[\\t\\r]", setOf(9, 9, 13, 13)},
		{"[0-9A-Z_a-z]", setOf('0', '9', 'A', 'Z', '_', '_', 'a', 'z')}, {"[a-b]", setOf('a', 'b')}, {"[ac]", setOf('a', 'a', 'c', 'c')},
		{`[\-\\-\^]`, setOf('-', '-', '\\', '^')}, {`[\]-\^]`, setOf(']', '^')}, {`[\-\\\^]`, setOf('-', '-', '\\', '\\', '^', '^')}, {`[\\-\^]`, setOf('\\', '^')}, {`[\^a]`, setOf('^', '^', 'a', 'a')}, {`[+-\-]`, setOf('+', '-')}, {`[\--.]`, setOf('-', '.')}, {"[$(*.?[{-}]", setOf('$', '$', '(', '(', '*', '*', '.', '.', '?', '?', '[', '[', '{', '}')},
		{"-", setOf('-', '-')}, {`\^`, setOf('^', '^')}, {`\]`, setOf(']', ']')}, {`\[`, setOf('[', '[')}, {`\\`, setOf('\\', '\\')}, {"~", setOf('~', '~')}, {",", setOf(',', ',')}, {":", setOf(':', ':')},
		{"\u00e9", setOf(0xe9, 0xe9)}, {"\U0010ffff", setOf(0x10ffff, 0x10ffff)}, {"[\x80]", setOf(raw(0x80), raw(0x80))}, {"[\xff]", setOf(top, top)}, {"[\xc3]", setOf(raw(0xc3), raw(0xc3))},
		{"[\x80-\xff]", setOf(raw(0x80), top)}, {"[\U0010ffff-\x80]", setOf(0x10ffff, raw(0x80))}, {"[\u00e9\xa9\xc3]", setOf(0xe9, 0xe9, raw(0xa9), raw(0xa9), raw(0xc3), raw(0xc3))}, {"[\ud7ff-\ue000]", setOf(0xd7ff, 0xe000)}, {"[\x80-\xa9\xc3-\xff]", setOf(raw(0x80), raw(0xa9), raw(0xc3), top)},
	} {
		wantText(t, x.t, x.want)
		wantAgain(t, x.t)
	}
}

// P10.1: each symbol by itself, in a class, and as both ends of a range.
func TestSymbols(t *testing.T) {
	alone := map[int]string{9: `\t`, 10: `\n`, 13: `\r`}
	inside := map[int]string{9: `\t`, 10: `\n`, 13: `\r`, '\\': `\\`, ']': `\]`, '-': `\-`, '^': `\^`}
	for _, x := range `\()[]{}.*+?|^$` {
		alone[int(x)] = `\` + string(x)
	}
	textOf := func(special map[int]string, x int) string {
		if s, ok := special[x]; ok {
			return s
		}
		return utf.Bytes(x)
	}
	ask := func(x int) {
		want := textOf(alone, x)
		if x >= api.Raw {
			want = "[" + utf.Bytes(x) + "]"
		}
		wantText(t, setOf(x, x), want)
		wantAgain(t, setOf(x, x))
		if y := utf.Next(x); y != -1 {
			wantText(t, setOf(x, y), "["+textOf(inside, x)+"-"+textOf(inside, y)+"]")
			wantAgain(t, setOf(x, y))
		}
		if y := utf.Next(utf.Next(x)); y != -1 && utf.Next(x) != -1 {
			wantText(t, setOf(x, x, y, y), "["+textOf(inside, x)+textOf(inside, y)+"]")
			wantAgain(t, setOf(x, x, y, y))
		}
	}
	// All would take long: above U+3000 some, and those about the ends of the stretches.
	for _, ends := range [][2]int{{0, 0x3000}, {0xd700, 0xd7ff}, {0xe000, 0xe100}, {0xff00, 0x10100}, {0x1f600, 0x1f680}, {0x10ff00, 0x10ffff}, {raw(0x80), api.MaxSym}} {
		for x := ends[0]; x != -1 && x <= ends[1]; x = utf.Next(x) {
			ask(x)
		}
	}
}

// P10.2: all sets of a few symbols that stand side by side or far apart, and what such a set leaves out.
func TestSetsAgain(t *testing.T) {
	few := []int{0, 9, 10, '-', '.', '[', '\\', ']', '^', 'a', 0x7f, 0xa9, 0xe9, raw(0x80), raw(0xa9), raw(0xc3)}
	for bits := range 1 << len(few) {
		var l []api.Rng
		for i, x := range few {
			if bits>>i&1 == 1 {
				l = append(l, api.Rng{Lo: x, Hi: x})
			}
		}
		wantAgain(t, of(api.Node{Kind: api.Set, Set: sets.Norm(l)}))
		wantAgain(t, of(api.Node{Kind: api.Set, Set: sets.Not(l)}))
	}
}

// P10.2: sets side by side: bytes that are no valid sequence by themselves do not become one.
func TestBytesSideBySide(t *testing.T) {
	few := []int{'a', '?', ':', '~', 0xe9, 0x20ac, raw(0x82), raw(0xac), raw(0xc3), raw(0xe2), raw(0xf0), raw(0xff)}
	for _, x := range few {
		for _, y := range few {
			for _, z := range few {
				l := []api.Node{sym(x), sym(y), two(api.Cat, 0, 1), sym(z), two(api.Cat, 2, 3)}
				wantAgain(t, of(l...))
				wantAgain(t, of(append(l, group(4, 1))...))
				l[2].Kind, l[4].Kind = api.Alt, api.Alt
				wantAgain(t, of(l...))
			}
		}
	}
	for k := range 0x80 {
		x := raw(0x80 + k)
		want := fmt.Sprintf("[%s]", string([]byte{byte(0x80 + k)}))
		wantText(t, of(sym(x), sym(x), two(api.Cat, 0, 1)), strings.Repeat(want, 2))
	}
}

// P10.1: digits and signs that stand for themselves behind something, as a number of times might.
func TestSignsAreNoWords(t *testing.T) {
	for _, s := range []string{`a\{2\}`, `a\{~2\}`, `\(\?:a\)`, `\[a\]`, `\[\^a\]`, `a\|b`, `a\*`, `\\d`, `\\n`, `\^a\$`, `[\^a]`, `[a\-c]`, `[\--0]`, `a,2~:`} {
		x := parsed(t, s)
		if y := parsed(t, Text(x)); !tree.Same(x, y) {
			t.Errorf("%q: %q", s, Text(x))
		}
	}
	wantText(t, parsed(t, `a\{2,3\}b`), `a\{2,3\}b`)
	wantText(t, parsed(t, `\(\?:a\)\.\+`), `\(\?:a\)\.\+`)
}
