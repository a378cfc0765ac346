package sets

import (
	"math"
	"math/rand"
	"slices"
	"testing"

	"obelus/api"
	"obelus/utf"
)

// of: ranges of pairs of numbers.
func of(l ...int) []api.Rng {
	var out []api.Rng
	for i := 0; i+1 < len(l); i += 2 {
		out = append(out, api.Rng{Lo: l[i], Hi: l[i+1]})
	}
	return out
}

// symbols: every symbol, the least first, by the words of chapter 1.
func symbols() []int {
	var l []int
	for x := 0; x <= 0x1100ff; x++ {
		if x <= 0x10ffff && (x < 0xd800 || x > 0xdfff) || x >= 0x110080 {
			l = append(l, x)
		}
	}
	return l
}

// bag: the symbols of a list, by the words of the chapter, one by one.
func bag(l []api.Rng, all []int) map[int]bool {
	b := map[int]bool{}
	for _, x := range all {
		for _, r := range l {
			if r.Lo <= x && x <= r.Hi {
				b[x] = true
			}
		}
	}
	return b
}

// normalOf: the normal list of the symbols that pass, made symbol by symbol.
func normalOf(all []int, pass func(int) bool) []api.Rng {
	var out []api.Rng
	joined := false
	for _, x := range all {
		if !pass(x) {
			joined = false
			continue
		}
		if joined {
			out[len(out)-1].Hi = x
		} else {
			out = append(out, api.Rng{Lo: x, Hi: x})
		}
		joined = true
	}
	return out
}

// near: symbols and other numbers around all edges that the chapter has.
func near() []int {
	l := []int{math.MinInt, math.MinInt + 1, -2, -1, 0, 1, 2, 3, math.MaxInt - 1, math.MaxInt}
	for _, c := range []int{'A', 'Z', 'a', 'z', 0xd800, 0xe000, 0x110000, 0x110080, 0x1100ff} {
		for d := -2; d <= 2; d++ {
			l = append(l, c+d)
		}
	}
	return l
}

// drawn: a list of up to four ranges whose ends stand around the edges.
func drawn(r *rand.Rand, ends []int) []api.Rng {
	var l []api.Rng
	for range r.Intn(5) {
		l = append(l, api.Rng{Lo: ends[r.Intn(len(ends))], Hi: ends[r.Intn(len(ends))]})
	}
	return l
}

// TestAgainstBags: P2.1, P2.2: every call against sets gone through symbol by symbol.
func TestAgainstBags(t *testing.T) {
	all, ends := symbols(), near()
	// Only the symbols around the edges can tell two lists apart whose ends all
	// stand there: each end has its neighbours among them.
	var few []int
	for _, x := range all {
		if x < 8 || x > 0x38 && x < 0x88 || x > 0xd7f8 && x < 0xe008 || x > 0x10fff8 {
			few = append(few, x)
		}
	}
	r := rand.New(rand.NewSource(2))
	for range 3000 {
		a, b := drawn(r, ends), drawn(r, ends)
		wasA, wasB := slices.Clone(a), slices.Clone(b)
		as, bs := bag(a, few), bag(b, few)
		other := func(x int) int {
			if x >= 'a' && x <= 'z' {
				return x - 32
			}
			if x >= 'A' && x <= 'Z' {
				return x + 32
			}
			return x
		}
		for name, got := range map[string]struct {
			l    []api.Rng
			pass func(int) bool
		}{
			"Norm": {Norm(a), func(x int) bool { return as[x] }},
			"Or":   {Or(a, b), func(x int) bool { return as[x] || bs[x] }},
			"And":  {And(a, b), func(x int) bool { return as[x] && bs[x] }},
			"Not":  {Not(a), func(x int) bool { return !as[x] }},
			"Fold": {Fold(a), func(x int) bool { return as[x] || as[other(x)] }},
		} {
			if !Good(got.l) {
				t.Fatalf("%s of %x, %x: %x is not normal", name, a, b, got.l)
			}
			for _, x := range few {
				if Has(got.l, x) != got.pass(x) {
					t.Fatalf("%s of %x, %x: %x, at %x", name, a, b, got.l, x)
				}
			}
		}
		for _, x := range ends {
			if Has(a, x) != (utf.Good(x) && as[x]) {
				t.Fatalf("Has of %x, %x", a, x)
			}
		}
		if !slices.Equal(a, wasA) || !slices.Equal(b, wasB) {
			t.Fatalf("%x or %x changed", wasA, wasB)
		}
	}
}

// TestWhole: P2.1, P2.2: a few lists against all symbols there are.
func TestWhole(t *testing.T) {
	all := symbols()
	for _, l := range [][]api.Rng{
		nil, of(math.MinInt, math.MaxInt), of(0x30, 0xd900, 0xdf00, 0x10fffe), of(0x11007f, 0x110081, 5, 4, 'q', 'q'), of(0xd800, 0xdfff, 0x110000, 0x11007f),
	} {
		has := bag(l, all)
		if got, want := Norm(l), normalOf(all, func(x int) bool { return has[x] }); !slices.Equal(got, want) {
			t.Errorf("Norm of %x: %x, not %x", l, got, want)
		}
		if got, want := Not(l), normalOf(all, func(x int) bool { return !has[x] }); !slices.Equal(got, want) {
			t.Errorf("Not of %x: %x, not %x", l, got, want)
		}
		if got := Count(l); got != len(has) {
			t.Errorf("Count of %x: %d, not %d", l, got, len(has))
		}
	}
}

// TestGood: P2.1: what is normal, and each way of not being so.
func TestGood(t *testing.T) {
	for _, l := range [][]api.Rng{
		nil, {}, of(0, 0), of(1, 3, 5, 9), of(0, 0x1100ff), of(0xd7fe, 0xd7fe, 0xe000, 0xe000), of(0xd7ff, 0xd7ff, 0xe001, 0xe001), of(0x10ffff, 0x10ffff, 0x110081, 0x110081), of(0xd7ff, 0xe000),
	} {
		if !Good(l) {
			t.Errorf("%x is normal", l)
		}
	}
	for _, l := range [][]api.Rng{
		of(3, 1), of(-1, 3), of(0xd800, 0xe000), of(0, 0xdfff), of(0, 0x110000), of(0x11007f, 0x110080), of(0, 0x110100), of(5, 9, 1, 3), of(1, 3, 4, 9), of(1, 3, 3, 9), of(1, 9, 3, 4), of(1, 1, 1, 1),
		of(0xd7ff, 0xd7ff, 0xe000, 0xe000), of(0x10ffff, 0x10ffff, 0x110080, 0x110080), of(0, 0x1100ff, 5, 5), of(0x1100ff, 0x1100ff, 0x1100ff, 0x1100ff), of(1, 1, 3, 3, 4, 4), of(math.MinInt, math.MaxInt),
	} {
		if Good(l) {
			t.Errorf("%x is not normal", l)
		}
	}
}

// TestExamples: the chapter's examples.
func TestExamples(t *testing.T) {
	if got := Norm(of(5, 9, 1, 3, 4, 4)); !slices.Equal(got, of(1, 9)) {
		t.Errorf("%x", got)
	}
	if got := Not(of(0xd7ff, 0xd7ff)); !slices.Equal(got, of(0, 0xd7fe, 0xe000, 0x1100ff)) {
		t.Errorf("%x", got)
	}
}

// TestCountOne: P2.1: symbols are counted once, and an only one is told.
func TestCountOne(t *testing.T) {
	for i, c := range []struct {
		l     []api.Rng
		count int
		one   int
		ok    bool
	}{
		{nil, 0, 0, false}, {of(4, 3), 0, 0, false}, {of(7, 7, 7, 7), 1, 7, true}, {of(7, 7, 8, 8), 2, 0, false}, {of(7, 7, 9, 9), 2, 0, false}, {of(-3, 0), 1, 0, true}, {of(0x1100ff, math.MaxInt), 1, 0x1100ff, true},
		{of(0xd7ff, 0xdfff), 1, 0xd7ff, true}, {of(0xd800, 0xe000), 1, 0xe000, true}, {of(0xd800, 0xdfff), 0, 0, false}, {of(0x110000, 0x110080), 1, 0x110080, true}, {of(0x10ffff, 0x11007f), 1, 0x10ffff, true}, {of(0xd7ff, 0xe000), 2, 0, false},
		{of(math.MinInt, math.MaxInt, 3, 9), 0x110000 - 0x800 + 0x80, 0, false},
	} {
		if got := Count(c.l); got != c.count {
			t.Errorf("%d: %d symbols, not %d", i, got, c.count)
		}
		if x, ok := One(c.l); x != c.one || ok != c.ok {
			t.Errorf("%d: %x, %v", i, x, ok)
		}
	}
}

// TestFoldWrap: P2.2: an empty range whose ends wrap round when they are moved adds nothing.
func TestFoldWrap(t *testing.T) {
	for _, l := range [][]api.Rng{of(math.MaxInt, 'Z'), of('a', math.MinInt), of(math.MaxInt, math.MinInt), of(math.MaxInt, 'z')} {
		if got := Fold(l); len(got) != 0 {
			t.Errorf("%x: %x", l, got)
		}
	}
	if got := Fold(of(math.MinInt, math.MaxInt)); !slices.Equal(got, of(0, 0x1100ff)) {
		t.Errorf("%x", got)
	}
}

// TestOneNormal: P2.3: lists of the same symbols have the same normal list, and it is its own.
func TestOneNormal(t *testing.T) {
	r := rand.New(rand.NewSource(23))
	ends := near()
	for range 2000 {
		a := drawn(r, ends)
		n := Norm(a)
		mixed := slices.Concat(a, n, a)
		r.Shuffle(len(mixed), func(i, k int) { mixed[i], mixed[k] = mixed[k], mixed[i] })
		for _, l := range [][]api.Rng{Norm(n), Norm(mixed), Or(a, nil), Or(nil, a), And(a, mixed), Not(Not(a)), Not(And(Not(a), Not(mixed)))} {
			if !slices.Equal(l, n) {
				t.Fatalf("of %x: %x, not %x", a, l, n)
			}
		}
		if Good(a) != slices.Equal(a, n) {
			t.Fatalf("Good of %x, normal is %x", a, n)
		}
	}
}

// TestNewMemory: R2: what is told shares nothing with what was handed in, spare room too.
func TestNewMemory(t *testing.T) {
	room := append(of(1, 2, 'a', 'a'), of(50, 51)...)
	x := room[:2]
	for _, tell := range []func() []api.Rng{
		func() []api.Rng { return Norm(x) },
		func() []api.Rng { return Or(x, nil) },
		func() []api.Rng { return Or(nil, x) },
		func() []api.Rng { return And(x, x) },
		func() []api.Rng { return Not(x) },
		func() []api.Rng { return Fold(x) },
	} {
		l := tell()
		l[0] = api.Rng{Lo: 99, Hi: 99}
		_ = append(l, api.Rng{Lo: 98, Hi: 98})
		if !slices.Equal(room, of(1, 2, 'a', 'a', 50, 51)) {
			t.Fatalf("%x", room)
		}
	}
}
