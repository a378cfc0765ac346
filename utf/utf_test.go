package utf

import (
	"math"
	"slices"
	"testing"

	"obelus/api"
)

// row: a row of RFC 3629's table: from and to which byte each of its bytes goes.
type row [][2]byte

// rows: the chapter's valid sequences, written down again, so that the tests
// hold the package against the document and not against the library.
var rows = []row{
	{{0x00, 0x7f}},
	{{0xc2, 0xdf}, {0x80, 0xbf}},
	{{0xe0, 0xe0}, {0xa0, 0xbf}, {0x80, 0xbf}},
	{{0xe1, 0xec}, {0x80, 0xbf}, {0x80, 0xbf}},
	{{0xed, 0xed}, {0x80, 0x9f}, {0x80, 0xbf}},
	{{0xee, 0xef}, {0x80, 0xbf}, {0x80, 0xbf}},
	{{0xf0, 0xf0}, {0x90, 0xbf}, {0x80, 0xbf}, {0x80, 0xbf}},
	{{0xf1, 0xf3}, {0x80, 0xbf}, {0x80, 0xbf}, {0x80, 0xbf}},
	{{0xf4, 0xf4}, {0x80, 0x8f}, {0x80, 0xbf}, {0x80, 0xbf}},
}

// edges: each end of each range of the table, its neighbours, and a letter.
var edges = []byte{
	0x00, 0x61, 0x7f, 0x80, 0x8f, 0x90, 0x9f, 0xa0, 0xbf, 0xc0, 0xc1, 0xc2, 0xdf,
	0xe0, 0xe1, 0xec, 0xed, 0xee, 0xef, 0xf0, 0xf1, 0xf3, 0xf4, 0xf5, 0xff,
}

func (r row) begins(s string) bool {
	if len(s) < len(r) {
		return false
	}
	for i, b := range r {
		if s[i] < b[0] || s[i] > b[1] {
			return false
		}
	}
	return true
}

func (r row) scalar(s string) int {
	if len(r) == 1 {
		return int(s[0])
	}
	x := int(s[0]) & (0xff >> (len(r) + 1))
	for i := 1; i < len(r); i++ {
		x = x<<6 | int(s[i])&0x3f
	}
	return x
}

// valid: how many bytes the valid sequence at place i has, and its scalar; 0, 0, if none begins there.
func valid(s string, i int) (int, int) {
	for _, r := range rows {
		if r.begins(s[i:]) {
			return len(r), r.scalar(s[i:])
		}
	}
	return 0, 0
}

func wantAt(s string, i int) (int, int) {
	if i < 0 || i >= len(s) {
		return -1, 0
	}
	if n, x := valid(s, i); n > 0 {
		return x, n
	}
	return api.Raw + int(s[i]), 1
}

// isSymbol: the chapter's words, one by one.
func isSymbol(x int) bool {
	scalar := x >= 0 && x <= 0x10ffff && !(x >= 0xd800 && x <= 0xdfff)
	raw := x >= 0x110080 && x <= 0x1100ff
	return scalar || raw
}

// strays: numbers that are far from every symbol.
var strays = []int{math.MinInt, math.MinInt + 1, math.MinInt32, -0x110080, -2, -1, 0x110100, 0x200000, math.MaxInt32, math.MaxInt32 + 1, 1<<32 + 0x61, math.MaxInt - 1, math.MaxInt}

// eachText: all texts of at most n of the edges' bytes.
func eachText(n int, do func(s string)) {
	var grow func(s []byte)
	grow = func(s []byte) {
		do(string(s))
		if len(s) == n {
			return
		}
		for _, b := range edges {
			grow(append(slices.Clip(s), b))
		}
	}
	grow(nil)
}

// longTexts: texts in which sequences of all kinds stand beside each other, whole and broken.
func longTexts() []string {
	parts := []string{"a", "\x00", "\xc3\xa9", "\xe2\x82\xac", "\xef\xbf\xbd", "\xf0\x9f\x98\x80", "\xf4\x8f\xbf\xbf", "\x80", "\xbf", "\xff", "\xc3", "\xe2\x82", "\xf0\x9f\x98", "\xed\xa0\x80", "\xf4\x90\x80\x80", "\xc0\x80"}
	var l []string
	for _, a := range parts {
		for _, b := range parts {
			for _, c := range parts {
				l = append(l, a+b+c, a+b+c+a+c+b)
			}
		}
	}
	return l
}

func eachLong(do func(s string)) {
	eachText(3, do)
	for _, s := range longTexts() {
		do(s)
	}
}

// P1.1: every text of four edge bytes, at every place and outside of it.
func TestAtOfEdges(t *testing.T) {
	eachText(4, func(s string) {
		for i := -1; i <= len(s)+1; i++ {
			x, n := At(s, i)
			if wx, wn := wantAt(s, i); x != wx || n != wn {
				t.Fatalf("At(%q, %d): %x %d, not %x %d", s, i, x, n, wx, wn)
			}
		}
	})
}

// P1.1: all pairs of bytes, alone and with valid bytes behind them.
func TestAtOfPairs(t *testing.T) {
	for a := range 256 {
		for b := range 256 {
			for _, tail := range []string{"", "\x80", "\xbf\x80", "\x80\xbf\x80"} {
				s := string([]byte{byte(a), byte(b)}) + tail
				for i := range len(s) {
					x, n := At(s, i)
					if wx, wn := wantAt(s, i); x != wx || n != wn {
						t.Fatalf("At(%q, %d): %x %d, not %x %d", s, i, x, n, wx, wn)
					}
				}
			}
		}
	}
}

// P1.1: a place within a sequence is answered, too; the replacement character is a scalar like others.
func TestAtNamed(t *testing.T) {
	for _, c := range []struct {
		s       string
		i, x, n int
	}{
		{"ab", 1, 'b', 1}, {"\xef\xbf\xbd", 0, 0xfffd, 3}, {"\xef\xbf\xbd", 1, api.Raw + 0xbf, 1}, {"\xef\xbf", 0, api.Raw + 0xef, 1},
		{"\xc3\xa9", 1, api.Raw + 0xa9, 1}, {"\xf0\x9f\x98\x80", 2, api.Raw + 0x98, 1},
		{"", 0, -1, 0}, {"", -1, -1, 0}, {"ab", 2, -1, 0}, {"ab", -1, -1, 0}, {"ab", math.MaxInt, -1, 0}, {"ab", math.MinInt, -1, 0},
	} {
		if x, n := At(c.s, c.i); x != c.x || n != c.n {
			t.Errorf("At(%q, %d): %x %d, not %x %d", c.s, c.i, x, n, c.x, c.n)
		}
	}
}

// P1.2: boundaries and what ends there, held against a walk from 0.
func TestBoundaries(t *testing.T) {
	eachLong(func(s string) {
		ends := map[int][2]int{}
		for i := 0; i < len(s); {
			x, n := wantAt(s, i)
			i += n
			ends[i] = [2]int{x, n}
		}
		for i := -2; i <= len(s)+2; i++ {
			want, is := ends[i]
			if !is {
				want = [2]int{-1, 0}
			}
			if Is(s, i) != (is || i == 0) {
				t.Fatalf("Is(%q, %d): %v", s, i, Is(s, i))
			}
			if x, n := Before(s, i); x != want[0] || n != want[1] {
				t.Fatalf("Before(%q, %d): %x %d, not %x", s, i, x, n, want)
			}
		}
	})
}

// P1.2: places that are far outside.
func TestBoundariesFarAway(t *testing.T) {
	for _, s := range []string{"", "a", "\xc3\xa9", "\xff\xff"} {
		for _, i := range []int{math.MinInt, math.MinInt + 1, -4, len(s) + 1, len(s) + 4, math.MaxInt - 1, math.MaxInt} {
			x, n := Before(s, i)
			if Is(s, i) || x != -1 || n != 0 {
				t.Errorf("%q %d: %v %x %d", s, i, Is(s, i), x, n)
			}
		}
	}
}

// P1.3: the symbols of a text; the chapter's example.
func TestAll(t *testing.T) {
	if l := All("\x61\xc3\xa9\x80"); !slices.Equal(l, []int{0x61, 0xe9, 0x110080}) {
		t.Errorf("%x", l)
	}
	if l := All(""); len(l) != 0 {
		t.Errorf("%x", l)
	}
	eachLong(func(s string) {
		var want []int
		for i := 0; i < len(s); {
			x, n := wantAt(s, i)
			want = append(want, x)
			i += n
		}
		if l := All(s); !slices.Equal(l, want) {
			t.Fatalf("All(%q): %x, not %x", s, l, want)
		}
	})
}

// R2: what is told is new memory, its spare room too.
func TestAllIsNew(t *testing.T) {
	const s = "a\xc3\xa9b"
	a, b := All(s), All(s)
	for i := range a {
		a[i] = -1
	}
	a = append(a[:0], 7, 7, 7, 7, 7, 7, 7)
	if want := []int{'a', 0xe9, 'b'}; !slices.Equal(b, want) || !slices.Equal(All(s), want) {
		t.Errorf("%x %x behind %x", b, All(s), a)
	}
}

// P1.3: what a symbol is, its neighbours above and below, of each number about all of them.
func TestNumbers(t *testing.T) {
	last := -1
	for x := -300; x <= api.MaxSym+300; x++ {
		if Good(x) != isSymbol(x) {
			t.Fatalf("Good(%x): %v", x, Good(x))
		}
		if Prev(x) != last {
			t.Fatalf("Prev(%x): %x, not %x", x, Prev(x), last)
		}
		if isSymbol(x) {
			last = x
		}
	}
	last = -1
	for x := api.MaxSym + 300; x >= -300; x-- {
		if Next(x) != last {
			t.Fatalf("Next(%x): %x, not %x", x, Next(x), last)
		}
		if isSymbol(x) {
			last = x
		}
	}
}

// P1.3: numbers that are no symbols, however far.
func TestStrays(t *testing.T) {
	for _, x := range strays {
		next, prev := 0, -1
		if x > 0 {
			next, prev = -1, api.MaxSym
		}
		if Good(x) || Bytes(x) != "" || Next(x) != next || Prev(x) != prev {
			t.Errorf("%x: %v %q %x %x", x, Good(x), Bytes(x), Next(x), Prev(x))
		}
	}
	if got := Join(strays); got != "" {
		t.Errorf("%q", got)
	}
}

// P1.3: the bytes of every symbol are its valid sequence, or its raw byte; of others nothing.
func TestBytes(t *testing.T) {
	for x := -1; x <= api.MaxSym+1; x++ {
		s := Bytes(x)
		switch {
		case !isSymbol(x):
			if s != "" {
				t.Fatalf("Bytes(%x): %q", x, s)
			}
		case x >= api.Raw:
			if s != string([]byte{byte(x - api.Raw)}) {
				t.Fatalf("Bytes(%x): %q", x, s)
			}
		case s == "":
			t.Fatalf("Bytes(%x): nothing", x)
		default:
			if n, y := valid(s, 0); n != len(s) || y != x {
				t.Fatalf("Bytes(%x): %q", x, s)
			}
		}
	}
}

// P1.3: Join leaves out what is no symbol, and doesn't ask whether raw bytes make a sequence together.
func TestJoin(t *testing.T) {
	for _, c := range []struct {
		l    []int
		want string
	}{
		{nil, ""}, {[]int{}, ""}, {[]int{'a', 'b'}, "ab"}, {[]int{-1, 'a', 0xd800, 0x110000, 'b', 0x110100}, "ab"},
		{[]int{0x1100c3, 0x1100a9}, "\xc3\xa9"}, {[]int{0x10ffff, 0, 0x110080}, "\xf4\x8f\xbf\xbf\x00\x80"},
	} {
		kept := slices.Clone(c.l)
		if got := Join(c.l); got != c.want || !slices.Equal(c.l, kept) {
			t.Errorf("%x: %q, not %q", c.l, got, c.want)
		}
	}
}

// P1.4: Join of All is the text; a boundary is where no valid sequence goes past.
func TestWhatFollows(t *testing.T) {
	eachLong(func(s string) {
		if got := Join(All(s)); got != s {
			t.Fatalf("%q: %q", s, got)
		}
		for i := 0; i <= len(s); i++ {
			past := false
			for k := 1; k <= 3 && k <= i; k++ {
				n, _ := valid(s, i-k)
				past = past || n > k
			}
			if Is(s, i) == past {
				t.Fatalf("Is(%q, %d): %v", s, i, Is(s, i))
			}
		}
	})
}
