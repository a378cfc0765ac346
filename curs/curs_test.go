package curs

import (
	"math"
	"math/rand"
	"slices"
	"strings"
	"testing"

	"obelus/api"
	"obelus/buf"
	"obelus/utf"
)

// sizes: of chunks: in the least ones a sequence lies in two, or even fills one.
var sizes = []int{api.MinChunk, 5, 6, 7, 16, api.MaxChunk}

// far: places that no text has.
var far = []int{math.MinInt, math.MinInt + 1, math.MinInt + 4, -4, -3, -2, -1, api.MaxText + 1, math.MaxInt - 4, math.MaxInt - 3, math.MaxInt - 1, math.MaxInt}

// parts: symbols of one to four bytes, and all ways in which a sequence is broken off or wrong.
var parts = []string{
	"a", "\n", "\x00", "\x7f", "\xc3\xa9", "\xe2\x82\xac", "\xef\xbf\xbd", "\xf0\x9f\x98\x80", "\xf4\x8f\xbf\xbf",
	"\x80", "\xbf", "\xff", "\xc3", "\xe2", "\xe2\x82", "\xf0", "\xf0\x9f", "\xf0\x9f\x98", "\xed\xa0\x80", "\xf4\x90\x80\x80", "\xc0\x80",
}

// filled: a buffer of a text, put in piece by piece at both ends and in the middle.
func filled(t *testing.T, size int, s string) *buf.Buf {
	t.Helper()
	b, e := buf.New(size)
	if e != api.OK {
		t.Fatal(e)
	}
	lo, hi := len(s)/3, len(s)-len(s)/4
	b.Insert(0, s[hi:])
	b.Insert(0, s[:lo])
	b.Insert(lo, "????")
	b.Insert(lo+2, s[lo:hi])
	b.Delete(lo, 2)
	b.Delete(hi, 2)
	if b.Text() != s {
		t.Fatalf("%q, not %q", b.Text(), s)
	}
	return b
}

// walked: the symbols and boundaries of a text, by layer 1's words alone.
func walked(s string) api.View {
	v := api.View{Offs: []int{0}}
	for _, x := range utf.All(s) {
		v.Syms = append(v.Syms, x)
		v.Offs = append(v.Offs, v.Offs[len(v.Offs)-1]+len(utf.Bytes(x)))
	}
	return v
}

func sameView(v, w api.View) bool {
	return slices.Equal(v.Syms, w.Syms) && slices.Equal(v.Offs, w.Offs)
}

// eachText: all rows of up to three of the parts, and some long mixed texts.
func eachText(do func(s string)) {
	do("")
	for _, a := range parts {
		do(a)
		for _, b := range parts {
			do(a + b)
			for _, c := range parts {
				do(a + b + c)
			}
		}
	}
	r := rand.New(rand.NewSource(5))
	for range 40 {
		var s strings.Builder
		for range r.Intn(60) {
			s.WriteString(parts[r.Intn(len(parts))])
		}
		do(s.String())
	}
}

// at: a new cursor at a place where one can stand.
func at(t *testing.T, b *buf.Buf, place int) *Cursor {
	t.Helper()
	c, e := New(b, place)
	if c == nil || e != api.OK || c.Place() != place || c.Fetched() != 0 {
		t.Fatalf("New(%q, %d): %v %v", b.Text(), place, c, e)
	}
	return c
}

// forth goes to the text's end, and back goes to 0: each holds what it meets against a view.
func forth(t *testing.T, c *Cursor, v api.View, from int) {
	t.Helper()
	had := c.Fetched()
	for i := from; i < len(v.Syms); i++ {
		x, ok := c.Next()
		if x != v.Syms[i] || !ok || c.Place() != v.Offs[i+1] || c.Fetched() != had+i+1-from {
			t.Fatalf("symbol %d of %x: %x %v, at %d, fetched %d", i, v.Syms, x, ok, c.Place(), c.Fetched())
		}
	}
	stays(t, c, c.Next)
}

func back(t *testing.T, c *Cursor, v api.View, from int) {
	t.Helper()
	had := c.Fetched()
	for i := from - 1; i >= 0; i-- {
		x, ok := c.Prev()
		if x != v.Syms[i] || !ok || c.Place() != v.Offs[i] || c.Fetched() != had+from-i {
			t.Fatalf("symbol %d of %x: %x %v, at %d, fetched %d", i, v.Syms, x, ok, c.Place(), c.Fetched())
		}
	}
	stays(t, c, c.Prev)
}

// stays: at an end a cursor tells nothing, as often as it is asked, and is as it was.
func stays(t *testing.T, c *Cursor, ask func() (int, bool)) {
	t.Helper()
	place, had := c.Place(), c.Fetched()
	for range 2 {
		if x, ok := ask(); x != 0 || ok || c.Place() != place || c.Fetched() != had {
			t.Fatalf("at the end %d: %x %v, at %d, fetched %d", place, x, ok, c.Place(), c.Fetched())
		}
	}
}

// P5.1, P5.3: where a cursor can stand: each place of each text, made anew and told to Seek.
func TestPlaces(t *testing.T) {
	eachText(func(s string) {
		v := walked(s)
		for _, size := range []int{api.MinChunk, 7} {
			b := filled(t, size, s)
			c := at(t, b, len(s))
			for i := -5; i <= len(s)+5; i++ {
				place(t, b, c, i, slices.Contains(v.Offs, i))
			}
		}
	})
}

// place holds all calls that are given a place to whether it is a boundary.
func place(t *testing.T, b *buf.Buf, c *Cursor, i int, is bool) {
	t.Helper()
	want, stands := api.ErrRange, c.Place()
	if is {
		want, stands = api.OK, i
	}
	if Is(b, i) != is {
		t.Fatalf("Is(%q, %d): %v", b.Text(), i, !is)
	}
	if d, e := New(b, i); e != want || (d != nil) != is {
		t.Fatalf("New(%q, %d): %v %v", b.Text(), i, d, e)
	}
	if e := c.Seek(i); e != want || c.Place() != stands {
		t.Fatalf("Seek(%d) in %q: %v, at %d", i, b.Text(), e, c.Place())
	}
}

// P5.1, P5.3: places that are far outside.
func TestFarPlaces(t *testing.T) {
	for _, s := range []string{"", "a", "a\xc3\xa9", "\xff\xf0\x9f\x98\x80"} {
		b := filled(t, api.MinChunk, s)
		c := at(t, b, len(s))
		for _, i := range far {
			place(t, b, c, i, false)
		}
	}
}

// P5.1 to P5.3: of nil, whether it is the cursor or the buffer.
func TestNil(t *testing.T) {
	var none *Cursor
	for _, i := range append([]int{0, 1}, far...) {
		if none.Seek(i) != api.ErrArg || Is(nil, i) {
			t.Errorf("%d: of nil", i)
		}
		if c, e := New(nil, i); c != nil || e != api.ErrArg {
			t.Errorf("New(nil, %d): %v %v", i, c, e)
		}
	}
	stays(t, none, none.Next)
	stays(t, none, none.Prev)
	if none.Place() != 0 || none.Fetched() != 0 {
		t.Error("nil stands somewhere")
	}
	if v := View(nil); len(v.Syms) != 0 || len(v.Offs) != 0 {
		t.Errorf("%v", v)
	}
}

// R1: a cursor that New never made, and one of a buffer that buf.New never made, do not panic.
func TestNeverMade(t *testing.T) {
	c := &Cursor{}
	if e := c.Seek(0); e != api.ErrArg {
		t.Error(e)
	}
	stays(t, c, c.Next)
	stays(t, c, c.Prev)
	b := &buf.Buf{}
	d := at(t, b, 0)
	stays(t, d, d.Next)
	stays(t, d, d.Prev)
	if v := View(b); !sameView(v, walked("")) || !Is(b, 0) || Is(b, 1) {
		t.Errorf("%v", v)
	}
}

// P5.2, P5.4: forth from each boundary to the end, back to 0, and forth again.
func TestWalks(t *testing.T) {
	eachText(func(s string) {
		v := walked(s)
		for _, size := range []int{api.MinChunk, 5, 16} {
			b := filled(t, size, s)
			c := at(t, b, 0)
			forth(t, c, v, 0)
			back(t, c, v, len(v.Syms))
			if c.Fetched() != 2*len(v.Syms) {
				t.Fatalf("%q: fetched %d", s, c.Fetched())
			}
			for i, off := range v.Offs {
				forth(t, at(t, b, off), v, i)
				back(t, at(t, b, off), v, i)
			}
		}
	})
}

// P5.4: at each boundary Prev behind Next, and Next behind Prev, tell the same symbol and stand where it stood.
func TestThereAndBack(t *testing.T) {
	s := strings.Join(parts, "") + strings.Join(parts, "x")
	for _, size := range sizes {
		b := filled(t, size, s)
		for _, off := range walked(s).Offs {
			c := at(t, b, off)
			x, ok := c.Next()
			if y, is := c.Prev(); ok && (x != y || !is || c.Place() != off || c.Fetched() != 2) {
				t.Fatalf("at %d: %x, then %x %v, at %d", off, x, y, is, c.Place())
			}
			c = at(t, b, off)
			x, ok = c.Prev()
			if y, is := c.Next(); ok && (x != y || !is || c.Place() != off || c.Fetched() != 2) {
				t.Fatalf("at %d: %x, then %x %v, at %d", off, x, y, is, c.Place())
			}
		}
	}
}

// P5.2: Seek tells no symbol, so that it changes nothing of Fetched, refused or not.
func TestFetched(t *testing.T) {
	c := at(t, filled(t, 4, "a\xc3\xa9b"), 0)
	c.Next()
	c.Next()
	for _, i := range []int{0, 1, 2, 3, 4, 5, -1} {
		c.Seek(i)
		if c.Fetched() != 2 {
			t.Errorf("behind Seek(%d): %d", i, c.Fetched())
		}
	}
	if x, ok := c.Prev(); x != 'b' || !ok || c.Fetched() != 3 {
		t.Errorf("%x %v %d", x, ok, c.Fetched())
	}
}

// R2: cursors of one buffer go their own ways, and change nothing of it; where it stands changes nothing of them.
func TestApart(t *testing.T) {
	s := strings.Join(parts, "\xe2\x82\xac")
	v := walked(s)
	for _, size := range sizes {
		b := filled(t, size, s)
		was := b.Sizes()
		c, d := at(t, b, 0), at(t, b, len(s))
		for i := range v.Syms {
			b.Move((i * 7) % len(s))
			x, ok := c.Next()
			y, is := d.Prev()
			if last := len(v.Syms) - 1 - i; x != v.Syms[i] || !ok || y != v.Syms[last] || !is || d.Place() != v.Offs[last] {
				t.Fatalf("%d: %x %v, %x %v", i, x, ok, y, is)
			}
			if b.Place() != (i*7)%len(s) {
				t.Fatalf("%d: the buffer stands at %d", i, b.Place())
			}
		}
		if b.Text() != s || !slices.Equal(b.Sizes(), was) {
			t.Errorf("chunks of %d: %q", size, b.Text())
		}
	}
}

// P5.1: behind an edit a Seek goes by the text as it is then, and so do the walks from there.
func TestSeekBehindEdit(t *testing.T) {
	for _, size := range sizes {
		b := filled(t, size, "abc\x82\xacdef")
		c := at(t, b, 4)
		c.Next()
		b.Insert(3, "\xe2")
		if e := c.Seek(5); e != api.ErrRange {
			t.Errorf("Seek(5): %v", e)
		}
		if e := c.Seek(3); e != api.OK {
			t.Errorf("Seek(3): %v", e)
		}
		forth(t, c, walked(b.Text()), 3)
		b.Delete(0, 5)
		if e := c.Seek(1); e != api.OK {
			t.Errorf("Seek(1): %v", e)
		}
		back(t, c, walked("\xacdef"), 1)
	}
}

// R1: of a cursor whose buffer was edited nothing is said, but that its calls end without a panic.
func TestEditedUnderneath(t *testing.T) {
	s := strings.Join(parts, "")
	for from := 0; from <= len(s); from++ {
		for _, off := range walked(s).Offs {
			b := filled(t, api.MinChunk, s)
			c := at(t, b, off)
			b.Delete(from, len(s)-from)
			c.Next()
			c.Prev()
			c.Prev()
			if e := c.Seek(0); e != api.OK {
				t.Fatal(e)
			}
			forth(t, c, walked(s[:from]), 0)
		}
	}
}

// P5.3: all symbols of a text and of a buffer; the chapter's example.
func TestViews(t *testing.T) {
	if v := Of("a\xff"); !sameView(v, api.View{Syms: []int{97, 0x1100ff}, Offs: []int{0, 1, 2}}) {
		t.Errorf("%x", v)
	}
	if v := Of(""); len(v.Syms) != 0 || !slices.Equal(v.Offs, []int{0}) {
		t.Errorf("%x", v)
	}
	eachText(func(s string) {
		want := walked(s)
		if v := Of(s); !sameView(v, want) {
			t.Fatalf("Of(%q): %x, not %x", s, v, want)
		}
		for _, size := range []int{api.MinChunk, 7} {
			if v := View(filled(t, size, s)); !sameView(v, want) {
				t.Fatalf("View(%q): %x, not %x", s, v, want)
			}
		}
	})
}

// R2: what is told is new memory, its spare room too.
func TestViewsAreNew(t *testing.T) {
	const s = "a\xc3\xa9b\xffcd"
	b := filled(t, 4, s)
	for _, tell := range []func() api.View{func() api.View { return Of(s) }, func() api.View { return View(b) }} {
		v, w := tell(), tell()
		for i := range v.Syms {
			v.Syms[i] = -1
		}
		_ = append(v.Syms, -1, -1)
		if !slices.Equal(v.Offs, walked(s).Offs) {
			t.Errorf("%v", v.Offs)
		}
		for i := range v.Offs {
			v.Offs[i] = -2
		}
		_ = append(v.Offs, -2, -2)
		if !sameView(w, walked(s)) || !sameView(tell(), walked(s)) || b.Text() != s {
			t.Errorf("%x %x", w, tell())
		}
	}
}

// R1: the longest texts are gone through in time, in the least and the greatest chunks.
func TestLongest(t *testing.T) {
	row := strings.Join(parts, "abcdefgh")
	s := strings.Repeat(row, api.MaxText/len(row))
	v := walked(s)
	for _, size := range []int{api.MinChunk, api.MaxChunk} {
		b, _ := buf.New(size)
		b.Insert(0, s)
		c := at(t, b, 0)
		forth(t, c, v, 0)
		back(t, c, v, len(v.Syms))
		if !sameView(View(b), v) {
			t.Error("viewed otherwise")
		}
		for i, k := 0, 0; i <= len(s); i++ {
			is := k < len(v.Offs) && v.Offs[k] == i
			if is {
				k++
			}
			if Is(b, i) != is {
				t.Fatalf("Is(%d): %v", i, !is)
			}
		}
	}
}
