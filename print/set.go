package print

import (
	"slices"
	"strings"

	"obelus/api"
	"obelus/sets"
	"obelus/utf"
)

const (
	feed = 10 // the symbol that . leaves out

	// The symbols that stand for themselves behind a \ alone: outside of classes, and in them.
	signs      = `\()[]{}.*+?|^$`
	classSigns = `\]-^`
)

// setText: the text of a normal set.
func setText(l []api.Rng) string {
	// A byte that is no part of a valid sequence may become part of one with
	// what stands about it, and so stands in a class.
	if x, ok := sets.One(l); ok && x < api.Raw {
		return symText(x, signs)
	}
	switch {
	case len(l) == 0:
		return `[^\d\D]`
	case slices.Equal(l, sets.Not(nil)):
		return `[\d\D]`
	case slices.Equal(l, sets.Not([]api.Rng{{Lo: feed, Hi: feed}})):
		return "."
	}
	return classText(l)
}

// classText: a class with the symbols of these ranges.
func classText(l []api.Rng) string {
	var b strings.Builder
	b.WriteString("[")
	for _, r := range l {
		b.WriteString(symText(r.Lo, classSigns))
		if r.Hi != r.Lo {
			b.WriteString("-" + symText(r.Hi, classSigns))
		}
	}
	b.WriteString("]")
	return b.String()
}

// symText: a symbol's text where those of marked need a \.
func symText(x int, marked string) string {
	switch x {
	case '\n':
		return `\n`
	case '\t':
		return `\t`
	case '\r':
		return `\r`
	}
	text := utf.Bytes(x)
	if strings.Contains(marked, text) {
		return `\` + text
	}
	return text
}
