package gap

import (
	"math"
	"math/rand"
	"testing"

	"obelus/api"
)

// model: a chunk as a plain text with a number beside it.
type model struct {
	size  int
	text  string
	place int
}

func (m *model) outside(at int) bool { return at < 0 || at > len(m.text) }

func (m *model) move(at int) api.Errno {
	if m.outside(at) {
		return api.ErrRange
	}
	m.place = at
	return api.OK
}

func (m *model) insert(at int, s string) api.Errno {
	if m.outside(at) {
		return api.ErrRange
	}
	if len(m.text)+len(s) > m.size {
		return api.ErrSize
	}
	m.text = m.text[:at] + s + m.text[at:]
	m.place = at + len(s)
	return api.OK
}

func (m *model) delete(at, n int) api.Errno {
	if m.outside(at) || n < 0 || n > len(m.text)-at {
		return api.ErrRange
	}
	m.text = m.text[:at] + m.text[at+n:]
	m.place = at
	return api.OK
}

func (m *model) cut(at int) (string, api.Errno) {
	if m.outside(at) {
		return "", api.ErrRange
	}
	tail := m.text[at:]
	m.text, m.place = m.text[:at], at
	return tail, api.OK
}

// same: does all that a chunk tells agree with the model?
func same(t *testing.T, c *Chunk, m *model) {
	t.Helper()
	if c.Size() != m.size || c.Len() != len(m.text) || c.Place() != m.place || c.Text() != m.text {
		t.Fatalf("size %d, len %d, place %d, text %q; not %+v", c.Size(), c.Len(), c.Place(), c.Text(), *m)
	}
	for at := range len(m.text) {
		if c.Byte(at) != int(m.text[at]) {
			t.Fatalf("byte %d of %q: %d", at, m.text, c.Byte(at))
		}
	}
	for _, at := range []int{-1, len(m.text), len(m.text) + 1, m.size, math.MinInt, math.MaxInt} {
		if b := c.Byte(at); (at < 0 || at >= len(m.text)) && b != -1 {
			t.Fatalf("byte %d of %q: %d, not -1", at, m.text, b)
		}
	}
}

func made(t *testing.T, size int) (*Chunk, *model) {
	t.Helper()
	c, e := New(size)
	if c == nil || e != api.OK {
		t.Fatalf("New(%d): %v", size, e)
	}
	return c, &model{size: size}
}

// P3.1: which sizes may be, and what a new chunk tells.
func TestNew(t *testing.T) {
	for size := api.MinChunk; size <= api.MaxChunk; size++ {
		c, m := made(t, size)
		same(t, c, m)
	}
	for _, size := range []int{math.MinInt, -4, -1, 0, 1, api.MinChunk - 1, api.MaxChunk + 1, 1 << 32, math.MaxInt} {
		if c, e := New(size); c != nil || e != api.ErrSize {
			t.Errorf("New(%d): %v %v", size, c, e)
		}
	}
}

// P3.1: of nil nothing is told and nothing is done; a chunk that New never made holds nothing.
func TestNil(t *testing.T) {
	var c *Chunk
	for _, at := range []int{math.MinInt, -1, 0, 1, math.MaxInt} {
		tail, e := c.Cut(at)
		if tail != "" || e != api.ErrArg {
			t.Errorf("Cut(%d): %q %v", at, tail, e)
		}
		if c.Move(at) != api.ErrArg || c.Insert(at, "x") != api.ErrArg || c.Delete(at, at) != api.ErrArg || c.Byte(at) != -1 {
			t.Errorf("%d: not refused", at)
		}
	}
	if c.Size() != 0 || c.Len() != 0 || c.Place() != 0 || c.Text() != "" || c.Clone() != nil {
		t.Error("nil tells something")
	}
	same(t, &Chunk{}, &model{})
	if e := new(Chunk).Insert(0, "x"); e != api.ErrSize {
		t.Errorf("no room: %v", e)
	}
}

// P3.1: a clone and what it was made of have nothing in common.
func TestClone(t *testing.T) {
	a, m := made(t, 8)
	a.Insert(0, "abcde")
	a.Move(2)
	b := a.Clone()
	m.text, m.place = "abcde", 2
	same(t, b, m)
	a.Insert(1, "xyz")
	same(t, b, m)
	m.delete(1, 3)
	b.Delete(1, 3)
	same(t, b, m)
	b.Insert(1, "!")
	same(t, a, &model{size: 8, text: "axyzbcde", place: 4})
	empty, n := made(t, 4)
	same(t, empty.Clone(), n)
}

// P3.2: the document's example.
func TestExample(t *testing.T) {
	c, m := made(t, 4)
	if e := c.Insert(0, "abc"); e != api.OK {
		t.Error(e)
	}
	if e := c.Insert(1, "xy"); e != api.ErrSize {
		t.Error(e)
	}
	m.text, m.place = "abc", 3
	same(t, c, m)
	if e := c.Insert(1, "x"); e != api.OK {
		t.Error(e)
	}
	m.text, m.place = "axbc", 2
	same(t, c, m)
}

// P3.2: what is refused, why first, and that it leaves all as it was.
func TestRefused(t *testing.T) {
	c, m := made(t, 6)
	c.Insert(0, "abcd")
	c.Move(1)
	m.text, m.place = "abcd", 1
	for _, at := range []int{math.MinInt, -1, 5, 6, 7, math.MaxInt} {
		tail, e := c.Cut(at)
		if tail != "" || e != api.ErrRange {
			t.Errorf("Cut(%d): %q %v", at, tail, e)
		}
		if e := c.Move(at); e != api.ErrRange {
			t.Errorf("Move(%d): %v", at, e)
		}
		for _, s := range []string{"", "x", "1234567"} {
			if e := c.Insert(at, s); e != api.ErrRange {
				t.Errorf("Insert(%d, %q): %v", at, s, e)
			}
		}
		for _, n := range []int{math.MinInt, -1, 0, 1, math.MaxInt} {
			if e := c.Delete(at, n); e != api.ErrRange {
				t.Errorf("Delete(%d, %d): %v", at, n, e)
			}
		}
		same(t, c, m)
	}
	for at := 0; at <= 4; at++ {
		for _, n := range []int{math.MinInt, -1, 5 - at, math.MaxInt} {
			if e := c.Delete(at, n); e != api.ErrRange {
				t.Errorf("Delete(%d, %d): %v", at, n, e)
			}
		}
		if e := c.Insert(at, "123"); e != api.ErrSize {
			t.Errorf("Insert(%d): %v", at, e)
		}
		same(t, c, m)
	}
}

// P3.2: each edit at each place, the gap ahead at each place.
func TestEachPlace(t *testing.T) {
	const text = "a\x00\xff\xc3e"
	for _, size := range []int{len(text), 9} {
		for gap := 0; gap <= len(text); gap++ {
			for at := 0; at <= len(text); at++ {
				eachEdit(t, size, text, gap, at)
			}
		}
	}
}

// eachEdit does every edit at one place of a text whose gap stands at another.
func eachEdit(t *testing.T, size int, text string, gap, at int) {
	t.Helper()
	fresh := func() (*Chunk, *model) {
		c, m := made(t, size)
		c.Insert(0, text)
		c.Move(gap)
		m.text, m.place = text, gap
		same(t, c, m)
		return c, m
	}
	for _, s := range []string{"", "x", "wxyz", "vwxyz"} {
		c, m := fresh()
		if got, want := c.Insert(at, s), m.insert(at, s); got != want {
			t.Errorf("insert %d %q: %v", at, s, got)
		}
		same(t, c, m)
	}
	for n := 0; n <= len(text)-at; n++ {
		c, m := fresh()
		if got, want := c.Delete(at, n), m.delete(at, n); got != want {
			t.Errorf("delete %d %d: %v", at, n, got)
		}
		same(t, c, m)
	}
	c, m := fresh()
	got, e := c.Cut(at)
	if want, _ := m.cut(at); got != want || e != api.OK {
		t.Errorf("cut %d: %q %v", at, got, e)
	}
	same(t, c, m)
}

// P3.2, P3.3: long runs of edits, told as the model tells them.
func TestLongRuns(t *testing.T) {
	r := rand.New(rand.NewSource(3))
	for range 300 {
		c, m := made(t, api.MinChunk+r.Intn(20))
		for range 200 {
			at := r.Intn(m.size+3) - 1
			s := "qwertyuiop"[:r.Intn(11)]
			var got, want api.Errno
			switch r.Intn(5) {
			case 0:
				got, want = c.Move(at), m.move(at)
			case 1, 2:
				got, want = c.Insert(at, s), m.insert(at, s)
			case 3:
				n := r.Intn(6) - 1
				got, want = c.Delete(at, n), m.delete(at, n)
			case 4:
				var a, b string
				a, got = c.Cut(at)
				b, want = m.cut(at)
				if a != b {
					t.Fatalf("cut: %q, not %q", a, b)
				}
			}
			if got != want {
				t.Fatalf("%v, not %v", got, want)
			}
			same(t, c, m)
		}
	}
}

// P3.3: wherever the gap is moved, text, length and size stay.
func TestPlaceChangesNothing(t *testing.T) {
	c, m := made(t, 10)
	c.Insert(0, "abcdefg")
	m.text, m.place = "abcdefg", 7
	for from := 0; from <= 7; from++ {
		for to := 0; to <= 7; to++ {
			for _, at := range []int{from, to} {
				if e := c.Move(at); e != api.OK {
					t.Fatal(e)
				}
				m.place = at
				same(t, c, m)
			}
		}
	}
}

// P3.2: what Cut and Text told stays as it was told, whatever is done later.
func TestToldStays(t *testing.T) {
	c, _ := made(t, 8)
	c.Insert(0, "abcdefgh")
	text := c.Text()
	tail, _ := c.Cut(4)
	c.Insert(0, "WXYZ")
	if text != "abcdefgh" || tail != "efgh" || c.Text() != "WXYZabcd" {
		t.Errorf("%q %q %q", text, tail, c.Text())
	}
}
