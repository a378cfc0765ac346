package buf

import (
	"math"
	"math/rand"
	"strings"
	"testing"

	"obelus/api"
)

// sizes: of chunks: the least and the greatest, and some of both parities between.
var sizes = []int{api.MinChunk, 5, 6, 7, 8, 11, 16, 33, 100, api.MaxChunk}

// model: a buffer as a plain text with a number beside it.
type model struct {
	text  string
	place int
}

func (m *model) outside(at int) bool { return at < 0 || at > len(m.text) }

func (m *model) move(at int) api.Errno {
	if m.outside(at) {
		return api.ErrRange
	}
	m.place = at
	return api.OK
}

func (m *model) insert(at int, s string) api.Errno {
	if m.outside(at) {
		return api.ErrRange
	}
	if len(m.text)+len(s) > api.MaxText {
		return api.ErrSize
	}
	m.text = m.text[:at] + s + m.text[at:]
	m.place = at + len(s)
	return api.OK
}

func (m *model) delete(at, n int) api.Errno {
	if m.outside(at) || n < 0 || n > len(m.text)-at {
		return api.ErrRange
	}
	m.text = m.text[:at] + m.text[at+n:]
	m.place = at
	return api.OK
}

// sound: are the chunks as P4.3 says?
func sound(t *testing.T, b *Buf, size int) {
	t.Helper()
	sum, last := 0, size
	for _, n := range b.Sizes() {
		if n < 1 || n > size || 2*(last+n) <= size {
			t.Fatalf("chunks of %d: %v", size, b.Sizes())
		}
		sum, last = sum+n, n
	}
	if sum != b.Len() {
		t.Fatalf("chunks of %d: %v, together not %d", size, b.Sizes(), b.Len())
	}
}

// same: does what a buffer tells at a glance agree with the model?
func same(t *testing.T, b *Buf, size int, m *model) {
	t.Helper()
	if b.Len() != len(m.text) || b.Place() != m.place || b.Text() != m.text {
		t.Fatalf("chunks of %d: len %d, place %d, text %q; not %d %q", size, b.Len(), b.Place(), b.Text(), m.place, m.text)
	}
	sound(t, b, size)
}

// whole: does everything that a buffer tells agree with the model?
func whole(t *testing.T, b *Buf, size int, m *model) {
	t.Helper()
	same(t, b, size, m)
	for at := range len(m.text) {
		if b.Byte(at) != int(m.text[at]) {
			t.Fatalf("byte %d of %q: %d", at, m.text, b.Byte(at))
		}
	}
	for _, at := range []int{math.MinInt, -1, len(m.text), len(m.text) + 1, math.MaxInt} {
		if b.Byte(at) != -1 {
			t.Fatalf("byte %d of %q: %d, not -1", at, m.text, b.Byte(at))
		}
	}
	for from := 0; from <= len(m.text); from++ {
		for to := from; to <= len(m.text); to++ {
			if s, e := b.Slice(from, to); s != m.text[from:to] || e != api.OK {
				t.Fatalf("%d to %d of %q: %q %v", from, to, m.text, s, e)
			}
		}
	}
}

func made(t *testing.T, size int, text string) (*Buf, *model) {
	t.Helper()
	b, e := New(size)
	if b == nil || e != api.OK {
		t.Fatalf("New(%d): %v", size, e)
	}
	m := &model{}
	if text != "" && b.Insert(0, text) != m.insert(0, text) {
		t.Fatalf("%q: refused", text)
	}
	return b, m
}

// P4.1: which sizes may be, and what a new buffer tells.
func TestNew(t *testing.T) {
	for size := api.MinChunk; size <= api.MaxChunk; size++ {
		b, m := made(t, size, "")
		whole(t, b, size, m)
		if len(b.Sizes()) != 0 {
			t.Fatalf("a chunk of nothing: %v", b.Sizes())
		}
	}
	for _, size := range []int{math.MinInt, -4, -1, 0, 1, api.MinChunk - 1, api.MaxChunk + 1, 1 << 32, math.MaxInt} {
		if b, e := New(size); b != nil || e != api.ErrSize {
			t.Errorf("New(%d): %v %v", size, b, e)
		}
	}
}

// P4.1: of nil nothing is told and nothing is done.
func TestNil(t *testing.T) {
	var b *Buf
	for _, at := range []int{math.MinInt, -1, 0, 1, math.MaxInt} {
		if s, e := b.Slice(at, at); s != "" || e != api.ErrArg {
			t.Errorf("Slice(%d): %q %v", at, s, e)
		}
		if b.Move(at) != api.ErrArg || b.Insert(at, "x") != api.ErrArg || b.Insert(at, "") != api.ErrArg || b.Delete(at, at) != api.ErrArg || b.Byte(at) != -1 {
			t.Errorf("%d: not refused", at)
		}
	}
	if b.Len() != 0 || b.Text() != "" || b.Place() != 0 || b.Clone() != nil || len(b.Sizes()) != 0 {
		t.Error("nil tells something")
	}
}

// R1: a buffer that New never made holds nothing, takes nothing, and does not panic.
func TestNeverMade(t *testing.T) {
	b := &Buf{}
	whole(t, b, 0, &model{})
	if b.Insert(0, "x") != api.ErrSize || b.Insert(1, "x") != api.ErrRange || b.Insert(0, "") != api.OK || b.Move(0) != api.OK || b.Delete(0, 0) != api.OK {
		t.Error("done otherwise")
	}
	whole(t, b.Clone(), 0, &model{})
}

// P4.1: slices that there are not.
func TestNoSlice(t *testing.T) {
	for _, size := range sizes {
		b, m := made(t, size, "abcdefghi")
		for _, c := range [][2]int{{-1, 2}, {-1, -1}, {3, 2}, {9, 8}, {0, 10}, {9, 10}, {10, 10}, {11, 10}, {math.MinInt, 0}, {math.MinInt, math.MaxInt}, {0, math.MaxInt}, {math.MaxInt, math.MaxInt}, {math.MaxInt, math.MinInt}} {
			if s, e := b.Slice(c[0], c[1]); s != "" || e != api.ErrRange {
				t.Errorf("Slice(%d, %d): %q %v", c[0], c[1], s, e)
			}
		}
		whole(t, b, size, m)
	}
}

// P4.1: a clone and what it was made of have nothing in common.
func TestClone(t *testing.T) {
	for _, size := range sizes {
		a, m := made(t, size, "abcdefghijklm")
		a.Move(6)
		m.move(6)
		b, n := a.Clone(), *m
		whole(t, b, size, &n)
		a.Insert(4, "xyz")
		m.insert(4, "xyz")
		whole(t, b, size, &n)
		b.Delete(3, 5)
		n.delete(3, 5)
		whole(t, a, size, m)
		for _, c := range []*Buf{a, b} {
			c.Insert(0, "12345678")
		}
		m.insert(0, "12345678")
		n.insert(0, "12345678")
		whole(t, a, size, m)
		whole(t, b, size, &n)
		a.Delete(0, a.Len())
		whole(t, b, size, &n)
	}
}

// P4.2: the document's example.
func TestExample(t *testing.T) {
	b, _ := made(t, 4, "abcdefg")
	if e := b.Delete(2, 3); e != api.OK {
		t.Error(e)
	}
	whole(t, b, 4, &model{text: "abfg", place: 2})
}

// P4.2: what is refused, and that it leaves all as it was.
func TestRefused(t *testing.T) {
	for _, size := range sizes {
		b, m := made(t, size, "abcdefghij")
		b.Move(3)
		m.move(3)
		before := b.Sizes()
		for _, at := range []int{math.MinInt, -1, 11, 12, math.MaxInt} {
			if e := b.Move(at); e != api.ErrRange {
				t.Errorf("Move(%d): %v", at, e)
			}
			for _, s := range []string{"", "x", strings.Repeat("x", api.MaxText+1)} {
				if e := b.Insert(at, s); e != api.ErrRange {
					t.Errorf("Insert(%d): %v", at, e)
				}
			}
			for _, n := range []int{math.MinInt, -1, 0, 1, math.MaxInt} {
				if e := b.Delete(at, n); e != api.ErrRange {
					t.Errorf("Delete(%d, %d): %v", at, n, e)
				}
			}
		}
		for at := 0; at <= 10; at++ {
			for _, n := range []int{math.MinInt, -1, 11 - at, math.MaxInt} {
				if e := b.Delete(at, n); e != api.ErrRange {
					t.Errorf("Delete(%d, %d): %v", at, n, e)
				}
			}
			if e := b.Insert(at, strings.Repeat("x", api.MaxText-9)); e != api.ErrSize {
				t.Errorf("Insert(%d): %v", at, e)
			}
		}
		whole(t, b, size, m)
		if got := b.Sizes(); len(got) != len(before) {
			t.Errorf("%v, not %v", got, before)
		}
	}
}

// P4.2, P4.3: each edit at each place of a text that was put in at once.
func TestEachPlace(t *testing.T) {
	const text = "a\x00\xff\xc3e\nghijklmnopq"
	for _, size := range sizes {
		for at := 0; at <= len(text); at++ {
			for _, s := range []string{"", "x", "xyz", "vwxyz", "0123456789", strings.Repeat("ab", 20)} {
				b, m := made(t, size, text)
				if got, want := b.Insert(at, s), m.insert(at, s); got != want {
					t.Errorf("insert %d %q: %v", at, s, got)
				}
				same(t, b, size, m)
			}
			for n := 0; n <= len(text)-at; n++ {
				b, m := made(t, size, text)
				if got, want := b.Delete(at, n), m.delete(at, n); got != want {
					t.Errorf("delete %d %d: %v", at, n, got)
				}
				whole(t, b, size, m)
			}
		}
	}
}

// P4.3: texts of each length, put in at once or byte by byte at either end, and taken away so.
func TestLengths(t *testing.T) {
	const letters = "abcdefghijklmnopqrstuvwxyz"
	for _, size := range sizes {
		for n := 0; n <= min(5*size, 600); n++ {
			b, m := made(t, size, strings.Repeat(letters, n/26+1)[:n])
			same(t, b, size, m)
		}
		for _, front := range []bool{true, false} {
			ends(t, size, front)
		}
	}
}

// ends types at one end of a buffer, and then takes away there byte by byte.
func ends(t *testing.T, size int, front bool) {
	t.Helper()
	b, m := made(t, size, "")
	for i := range 120 {
		at, s := len(m.text), string(rune('a'+i%26))
		if front {
			at = 0
		}
		if b.Insert(at, s) != m.insert(at, s) {
			t.Fatal("refused")
		}
		same(t, b, size, m)
	}
	for len(m.text) > 0 {
		at := len(m.text) - 1
		if front {
			at = 0
		}
		if b.Delete(at, 1) != m.delete(at, 1) {
			t.Fatal("refused")
		}
		same(t, b, size, m)
	}
}

// P4.2, P4.3, P4.4: long runs of edits, in chunks of all sizes at once, told as the model tells them.
func TestLongRuns(t *testing.T) {
	r := rand.New(rand.NewSource(4))
	for round := range 40 {
		m := &model{}
		var all []*Buf
		for _, size := range sizes {
			b, _ := made(t, size, "")
			all = append(all, b)
		}
		for range 150 {
			edit(t, r, all, m)
			for i, b := range all {
				same(t, b, sizes[i], m)
			}
		}
		whole(t, all[round%len(all)], sizes[round%len(all)], m)
	}
}

// edit does one and the same thing to all buffers and the model.
func edit(t *testing.T, r *rand.Rand, all []*Buf, m *model) {
	t.Helper()
	at := r.Intn(len(m.text)+3) - 1
	n := r.Intn(r.Intn(40)+2) - 1
	s := strings.Repeat("qwertyuiop", 3)[:r.Intn(r.Intn(30)+1)]
	kind := r.Intn(5)
	var do func(b *Buf) api.Errno
	var want api.Errno
	switch kind {
	case 0:
		do, want = func(b *Buf) api.Errno { return b.Move(at) }, m.move(at)
	case 1, 2:
		do, want = func(b *Buf) api.Errno { return b.Insert(at, s) }, m.insert(at, s)
	default:
		do, want = func(b *Buf) api.Errno { return b.Delete(at, n) }, m.delete(at, n)
	}
	for i, b := range all {
		if got := do(b); got != want {
			t.Fatalf("chunks of %d, kind %d at %d: %v, not %v", sizes[i], kind, at, got, want)
		}
	}
}

// P4.4: wherever it stood, an edit does the same to the text and to the chunks.
func TestPlaceChangesNothing(t *testing.T) {
	for _, size := range sizes {
		for place := 0; place <= 12; place++ {
			b, m := made(t, size, "abcdefghijkl")
			if b.Move(place) != api.OK {
				t.Fatal("refused")
			}
			m.move(place)
			whole(t, b, size, m)
			b.Insert(5, "xy")
			m.insert(5, "xy")
			same(t, b, size, m)
			b.Move(place)
			b.Delete(4, 4)
			m.delete(4, 4)
			same(t, b, size, m)
		}
	}
}

// P4.2: the longest text, in the least and the greatest chunks.
func TestLimit(t *testing.T) {
	long := strings.Repeat("abcdefg\n", api.MaxText/8)
	for _, size := range []int{api.MinChunk, api.MaxChunk} {
		b, m := made(t, size, long)
		same(t, b, size, m)
		for _, at := range []int{0, 5, api.MaxText} {
			if e := b.Insert(at, "y"); e != api.ErrSize {
				t.Errorf("Insert(%d): %v", at, e)
			}
		}
		if e := b.Insert(api.MaxText+1, "y"); e != api.ErrRange {
			t.Error(e)
		}
		same(t, b, size, m)
		if b.Insert(9, "") != api.OK || b.Place() != 9 {
			t.Error("nothing put into a full buffer")
		}
		b.Delete(100, 2)
		m.delete(100, 2)
		if e := b.Insert(7, "xyz"); e != api.ErrSize {
			t.Error(e)
		}
		if b.Insert(7, "xy") != m.insert(7, "xy") {
			t.Error("refused")
		}
		same(t, b, size, m)
		b.Delete(3, api.MaxText-4)
		m.delete(3, api.MaxText-4)
		whole(t, b, size, m)
		if e := b.Insert(0, strings.Repeat("x", api.MaxText-3)); e != api.ErrSize {
			t.Error(e)
		}
		if e := b.Insert(4, strings.Repeat("x", api.MaxText-4)); e != api.OK || b.Len() != api.MaxText {
			t.Error(e)
		}
		sound(t, b, size)
	}
}

// R1: each byte of the longest text is told in time, even in the least chunks.
func TestManyChunks(t *testing.T) {
	long := strings.Repeat("0123456789abcde", api.MaxText/15)
	b, _ := made(t, api.MinChunk, long)
	for at := range len(long) {
		if b.Byte(at) != int(long[at]) {
			t.Fatalf("byte %d: %d", at, b.Byte(at))
		}
	}
}

// R2: what was told stays as it was told, and who writes into it changes nothing.
func TestToldStays(t *testing.T) {
	b, _ := made(t, 4, "abcdefgh")
	text := b.Text()
	part, _ := b.Slice(2, 6)
	l := b.Sizes()
	for i := range l {
		l[i] = -1
	}
	_ = append(l, 7)
	sound(t, b, 4)
	b.Delete(0, 5)
	b.Insert(1, "WXYZ")
	if text != "abcdefgh" || part != "cdef" || b.Text() != "fWXYZgh" {
		t.Errorf("%q %q %q", text, part, b.Text())
	}
}
