package line

import (
	"math"
	"slices"
	"testing"

	"obelus/api"
)

// far: numbers that are no place, line or column of any list here.
var far = []int{math.MinInt, math.MinInt + 1, -10, -2, -1, 100, math.MaxInt - 1, math.MaxInt}

// kinds: the symbol 10, those beside it, and others that some take for a line's end; numbers that are no symbols, too.
var kinds = []int{10, 97, 9, 11, 13, 0, -10, 0x85, 0x2028, math.MinInt, math.MaxInt}

// where: what a place is, by the chapter's words.
type where struct {
	bol, eol  bool
	line, col int
}

// walked: what each place of a list is, told from the left, symbol by symbol.
func walked(l []int) []where {
	w := []where{{bol: true, line: 1, col: 1}}
	for i, x := range l {
		here := w[i]
		if x == 10 {
			w[i].eol = true
			w = append(w, where{bol: true, line: here.line + 1, col: 1})
			continue
		}
		w = append(w, where{line: here.line, col: here.col + 1})
	}
	w[len(l)].eol = true
	return w
}

// eachList: all rows of up to six of two symbols, and of up to three of all kinds.
func eachList(do func(l []int)) {
	rows(nil, []int{10, 97}, 6, do)
	rows(nil, kinds, 3, do)
}

func rows(l, of []int, n int, do func(l []int)) {
	do(l)
	if n == 0 {
		return
	}
	for _, x := range of {
		rows(append(slices.Clone(l), x), of, n-1, do)
	}
}

// P6.1: where lines begin and end.
func TestBeginsAndEnds(t *testing.T) {
	eachList(func(l []int) {
		var starts []int
		for p, w := range walked(l) {
			if Bol(l, p) != w.bol || Eol(l, p) != w.eol {
				t.Errorf("%v, place %d: %v %v", l, p, Bol(l, p), Eol(l, p))
			}
			if w.bol {
				starts = append(starts, p)
			}
		}
		if got := Starts(l); !slices.Equal(got, starts) {
			t.Errorf("Starts(%v): %v, not %v", l, got, starts)
		}
	})
}

// P6.1: of what is no place, no line begins or ends there.
func TestNoPlace(t *testing.T) {
	eachList(func(l []int) {
		for _, p := range append([]int{len(l) + 1, len(l) + 2}, far...) {
			if Bol(l, p) || Eol(l, p) {
				t.Errorf("%v, place %d: %v %v", l, p, Bol(l, p), Eol(l, p))
			}
			if n, k, e := Of(l, p); n != 0 || k != 0 || e != api.ErrRange {
				t.Errorf("Of(%v, %d): %d %d %v", l, p, n, k, e)
			}
		}
	})
}

// P6.2: Of tells a place's line and column.
func TestOf(t *testing.T) {
	eachList(func(l []int) {
		for p, w := range walked(l) {
			if n, k, e := Of(l, p); n != w.line || k != w.col || e != api.OK {
				t.Errorf("Of(%v, %d): %d %d %v, not %v", l, p, n, k, e, w)
			}
		}
	})
}

// P6.2: At tells the place of just those lines and columns that there are, and refuses all others.
func TestAt(t *testing.T) {
	eachList(func(l []int) {
		places := map[[2]int]int{}
		for p, w := range walked(l) {
			places[[2]int{w.line, w.col}] = p
		}
		for n := -1; n <= len(l)+3; n++ {
			for k := -1; k <= len(l)+3; k++ {
				want, ok := places[[2]int{n, k}]
				if p, e := At(l, n, k); p != want || (e == api.OK) != ok || !ok && e != api.ErrRange {
					t.Errorf("At(%v, %d, %d): %d %v", l, n, k, p, e)
				}
			}
		}
	})
}

// P6.2: lines and columns that no list has.
func TestAtFar(t *testing.T) {
	eachList(func(l []int) {
		for _, n := range far {
			for _, k := range append([]int{1, 2}, far...) {
				for _, c := range [][2]int{{n, k}, {k, n}} {
					if p, e := At(l, c[0], c[1]); p != 0 || e != api.ErrRange {
						t.Errorf("At(%v, %d, %d): %d %v", l, c[0], c[1], p, e)
					}
				}
			}
		}
	})
}

// P6.2: a line's 10 is none of its symbols: the place ahead of it is its last one.
func TestAtFeed(t *testing.T) {
	l := []int{97, 98, 10, 99}
	if p, e := At(l, 1, 3); p != 2 || e != api.OK {
		t.Error(p, e)
	}
	if p, e := At(l, 1, 4); p != 0 || e != api.ErrRange {
		t.Error(p, e)
	}
}

// P6.3: each place stands in one line: from its beginning to its end, and no other line has it.
func TestOneLine(t *testing.T) {
	eachList(func(l []int) {
		seen := map[[2]int]bool{}
		starts := Starts(l)
		for p := range len(l) + 1 {
			n, k, e := Of(l, p)
			if e != api.OK || seen[[2]int{n, k}] || starts[n-1]+k-1 != p || n < len(starts) && starts[n] <= p {
				t.Errorf("%v, place %d: %d %d %v", l, p, n, k, e)
			}
			seen[[2]int{n, k}] = true
			if at, e := At(l, n, k); at != p || e != api.OK {
				t.Errorf("%v, place %d: %d %v", l, p, at, e)
			}
		}
	})
}

// The chapter's example.
func TestExample(t *testing.T) {
	l := []int{97, 10, 98}
	if got := Starts(l); !slices.Equal(got, []int{0, 2}) {
		t.Error(got)
	}
	if n, k, e := Of(l, 3); n != 2 || k != 2 || e != api.OK {
		t.Error(n, k, e)
	}
}

// R2: a nil list and an empty one are one; what is told is new, and what is handed in stays as it is.
func TestLists(t *testing.T) {
	for _, l := range [][]int{nil, {}} {
		if got := Starts(l); !slices.Equal(got, []int{0}) || !Bol(l, 0) || !Eol(l, 0) {
			t.Error(got)
		}
		if p, e := At(l, 1, 1); p != 0 || e != api.OK {
			t.Error(p, e)
		}
	}
	l := []int{10, 97, 10}
	keep := slices.Clone(l)
	a, b := Starts(l), Starts(l)
	clear(a[:cap(a)])
	At(l, 3, 1)
	Of(l, 3)
	if !slices.Equal(l, keep) || !slices.Equal(b, []int{0, 1, 3}) || !slices.Equal(Starts(l), b) {
		t.Error(l, b)
	}
}

// R1: a long list, and a last line far off, are gone through once.
func TestLong(t *testing.T) {
	l := make([]int, 1<<20)
	for i := range l {
		l[i] = 10
	}
	n, k, e := Of(l, len(l))
	if n != len(l)+1 || k != 1 || e != api.OK {
		t.Error(n, k, e)
	}
	if p, e := At(l, n, k); p != len(l) || e != api.OK {
		t.Error(p, e)
	}
	if p, e := At(l, math.MaxInt, 1); p != 0 || e != api.ErrRange {
		t.Error(p, e)
	}
}
