// Package utf: symbols of bytes: see ../../shared/doc/01-utf.md.
package utf

import (
	"strings"
	"unicode/utf8"

	"obelus/api"
)

// The ends of the three stretches that symbols fill: 0 to lowTop,
// highBottom to scalarTop, rawBottom to api.MaxSym.
const (
	lowTop     = 0xd7ff
	highBottom = 0xe000
	scalarTop  = 0x10ffff
	rawBottom  = api.Raw + 0x80
)

// At: the symbol at place i, and how many bytes it has; -1, 0, if there is none.
func At(s string, i int) (int, int) {
	if i < 0 || i >= len(s) {
		return -1, 0
	}
	if s[i] < utf8.RuneSelf {
		return int(s[i]), 1
	}
	r, n := utf8.DecodeRuneInString(s[i:])
	// The width tells a fault, not the rune: U+FFFD may stand in a text itself.
	if n == 1 {
		return api.Raw + int(s[i]), 1
	}
	return int(r), n
}

// Is: is i a boundary?
func Is(s string, i int) bool {
	if i < 0 || i > len(s) {
		return false
	}
	// Valid sequences never overlap, so each begins at a boundary, and only one
	// that goes past i can keep i from being one: the text ahead needs no walk.
	for k := 1; k < utf8.UTFMax && k <= i; k++ {
		if _, n := At(s, i-k); n > k {
			return false
		}
	}
	return true
}

// Before: the symbol that ends at the boundary i, and how many bytes it has; -1, 0, if there is none.
func Before(s string, i int) (int, int) {
	if i <= 0 || !Is(s, i) {
		return -1, 0
	}
	// The longest first: the last byte of a sequence alone looks like a raw one.
	for k := min(i, utf8.UTFMax); k > 1; k-- {
		if x, n := At(s, i-k); n == k {
			return x, n
		}
	}
	return At(s, i-1)
}

// All: the symbols of a text, from 0 on.
func All(s string) []int {
	var l []int
	for i := 0; i < len(s); {
		x, n := At(s, i)
		l = append(l, x)
		i += n
	}
	return l
}

// Good: is x a symbol?
func Good(x int) bool {
	switch {
	case x < 0 || x > api.MaxSym:
		return false
	case x > scalarTop:
		return x >= rawBottom
	}
	return x <= lowTop || x >= highBottom
}

// Bytes: a symbol's bytes; nothing of what is no symbol.
func Bytes(x int) string {
	switch {
	case !Good(x):
		return ""
	case x > scalarTop:
		return string([]byte{byte(x - api.Raw)})
	}
	return string(rune(x))
}

// Join: the bytes of each symbol, one behind the other.
func Join(l []int) string {
	var b strings.Builder
	for _, x := range l {
		b.WriteString(Bytes(x))
	}
	return b.String()
}

// Next: the least symbol above x; -1, if there is none.
func Next(x int) int {
	switch {
	case x < 0:
		return 0
	case x >= api.MaxSym:
		return -1
	case x >= lowTop && x < highBottom:
		return highBottom
	case x >= scalarTop && x < rawBottom:
		return rawBottom
	}
	return x + 1
}

// Prev: the greatest symbol below x; -1, if there is none.
func Prev(x int) int {
	switch {
	case x <= 0:
		return -1
	case x > api.MaxSym:
		return api.MaxSym
	case x > lowTop && x <= highBottom:
		return lowTop
	case x > scalarTop && x <= rawBottom:
		return scalarTop
	}
	return x - 1
}
