package lex

import (
	"fmt"
	"reflect"
	"regexp"
	"slices"
	"strconv"
	"strings"
	"testing"

	"obelus/api"
	"obelus/sets"
	"obelus/utf"
)

// signs: those of the chapter.
const signs = "\\()[]{}.*+?|^$"

// of: ranges of pairs of numbers.
func of(l ...int) []api.Rng {
	var out []api.Rng
	for i := 0; i+1 < len(l); i += 2 {
		out = append(out, api.Rng{Lo: l[i], Hi: l[i+1]})
	}
	return out
}

// set: a word of a set, at place 0.
func set(l ...int) api.Tok { return api.Tok{Kind: api.TSet, Set: of(l...)} }

// at: the word, at another place.
func at(i int, w api.Tok) api.Tok {
	w.At = i
	return w
}

// rep, bud, bare: words at place 0.
func rep(m, n int) api.Tok  { return api.Tok{Kind: api.TRep, Min: m, Max: n} }
func bud(k int) api.Tok     { return api.Tok{Kind: api.TBud, Min: k} }
func bare(kind int) api.Tok { return api.Tok{Kind: kind} }

// syntax, back, badNumber: faults at place i.
func syntax(i int) api.Fault    { return api.Fault{Err: api.ErrSyntax, At: i} }
func back(i int) api.Fault      { return api.Fault{Err: api.ErrBack, At: i} }
func badNumber(i int) api.Fault { return api.Fault{Err: api.ErrNumber, At: i} }

// letterOrDigit: a to z, A to Z, 0 to 9.
func letterOrDigit(x int) bool {
	return x >= 'a' && x <= 'z' || x >= 'A' && x <= 'Z' || x >= '0' && x <= '9'
}

// same: are the words alike, all fields of them (a nil list and an empty one are)?
func same(a, b []api.Tok) bool {
	return slices.EqualFunc(a, b, func(x, y api.Tok) bool {
		sameSet := slices.Equal(x.Set, y.Set)
		x.Set, y.Set = nil, nil
		return sameSet && reflect.DeepEqual(x, y)
	})
}

// wantWords, wantFault: hold what Tokens tells of s against what it should.
func wantWords(t *testing.T, s string, want ...api.Tok) {
	t.Helper()
	if got, f := Tokens(s); !same(got, want) || f != (api.Fault{}) {
		t.Errorf("%q: %v %v, not %v", s, got, f, want)
	}
}

func wantFault(t *testing.T, s string, want api.Fault) {
	t.Helper()
	if got, f := Tokens(s); got != nil || f != want {
		t.Errorf("%q: %v %v, not %v", s, got, f, want)
	}
}

// eachSymbol: all symbols around the edges of their stretches, those of one and
// two bytes, those of raw bytes, and some of the rest.
func eachSymbol(do func(x int, s string)) {
	for x := 0; x <= api.MaxSym; x++ {
		edge := x < 0x900 || x > 0xd7f0 && x < 0xe010 || x > 0xfff0 && x < 0x10010 || x > 0x10fff0
		if utf.Good(x) && (edge || x%97 == 0) {
			do(x, utf.Bytes(x))
		}
	}
}

// P7.1: a symbol that is no sign is the set of itself; each sign is what the chapter says.
func TestPlain(t *testing.T) {
	eachSymbol(func(x int, s string) {
		if x > 0x7f || !strings.Contains(signs, s) {
			wantWords(t, s, set(x, x))
			wantWords(t, "a"+s, set('a', 'a'), at(1, set(x, x)))
		}
	})
	wantWords(t, "")
	wantWords(t, "()|^$", bare(api.TOpen), at(1, bare(api.TClose)), at(2, bare(api.TBar)), at(3, bare(api.TBol)), at(4, bare(api.TEol)))
	wantWords(t, "*+?", rep(0, -1), at(1, rep(1, -1)), at(2, rep(0, 1)))
	wantWords(t, ".", set(0, 9, 11, 0x1100ff))
	wantFault(t, "]", syntax(0))
	wantFault(t, "}", syntax(0))
}

// P7.1: groups without a number begin with all three bytes alone.
func TestGroups(t *testing.T) {
	wantWords(t, "(?:(?:", bare(api.TPlain), at(3, bare(api.TPlain)))
	wantWords(t, "((?:", bare(api.TOpen), at(1, bare(api.TPlain)))
	wantWords(t, "(?", bare(api.TOpen), at(1, rep(0, 1)))
	wantWords(t, "(?(", bare(api.TOpen), at(1, rep(0, 1)), at(2, bare(api.TOpen)))
	wantWords(t, "(:", bare(api.TOpen), at(1, set(':', ':')))
	wantWords(t, "\\(?:", set('(', '('), at(2, rep(0, 1)), at(3, set(':', ':')))
}

// escapesOfLetters: by the chapter.
func escapesOfLetters() map[int][]api.Rng {
	return map[int][]api.Rng{
		'n': of(10, 10), 't': of(9, 9), 'r': of(13, 13),
		'd': of('0', '9'), 'w': of('0', '9', 'A', 'Z', '_', '_', 'a', 'z'), 's': of(9, 13, 32, 32),
		'D': of(0, '0'-1, '9'+1, 0x1100ff), 'S': of(0, 8, 14, 31, 33, 0x1100ff),
		'W': of(0, '0'-1, '9'+1, 'A'-1, 'Z'+1, '_'-1, '_'+1, 'a'-1, 'z'+1, 0x1100ff),
	}
}

// P7.1: \ ahead of each symbol, outside of a class and within one.
func TestEscapes(t *testing.T) {
	letters := escapesOfLetters()
	eachSymbol(func(x int, s string) {
		want := set(x, x)
		if l := letters[x]; l != nil {
			want.Set = l
		} else if x >= '1' && x <= '9' {
			wantFault(t, "a\\"+s, back(1))
			wantFault(t, "[a\\"+s+"]", back(2))
			return
		} else if letterOrDigit(x) {
			wantFault(t, "a\\"+s, syntax(1))
			wantFault(t, "[a\\"+s+"]", syntax(2))
			return
		}
		wantWords(t, "\\"+s, want)
		wantWords(t, "[\\"+s+"]", want)
		want.Set = sets.Not(want.Set)
		wantWords(t, "[^\\"+s+"]", want)
	})
	wantFault(t, "\\", syntax(0))
	wantFault(t, "\\\\\\", syntax(2))
}

// P7.1: each symbol in a class, alone, as either end of a range, and left out.
func TestClassSymbols(t *testing.T) {
	eachSymbol(func(x int, s string) {
		if s == "\\" || s == "]" || s == "-" {
			return
		}
		wantWords(t, "[^"+s+"]", api.Tok{Kind: api.TSet, Set: sets.Not(of(x, x))})
		if s == "^" {
			return
		}
		wantWords(t, "["+s+"]", set(x, x))
		wantWords(t, "["+s+"-"+s+"]", set(x, x))
		wantWords(t, "[\x00-"+s+"]", set(0, x))
		wantWords(t, "["+s+"-\xff]", set(x, 0x1100ff))
		// What stands below . is a -, and no single.
		if x > 0 && x != '.' {
			wantFault(t, "["+s+"-"+utf.Bytes(utf.Prev(x))+"]", syntax(1))
		}
	})
}

// P7.1: items of classes, one behind the other.
func TestClasses(t *testing.T) {
	wantWords(t, "[a-c\\d]", set('0', '9', 'a', 'c'))
	wantWords(t, "[^^]", set(0, '^'-1, '^'+1, 0x1100ff))
	wantWords(t, "[a^]", set('^', '^', 'a', 'a'))
	wantWords(t, "[\\^a]", set('^', '^', 'a', 'a'))
	wantWords(t, "[[]", set('[', '['))
	wantWords(t, "[\\]]", set(']', ']'))
	wantWords(t, "[+-\\-]", set('+', '-'))
	wantWords(t, "[\\--\\-]", set('-', '-'))
	wantWords(t, "[^\\--a]", set(0, '-'-1, 'b', 0x1100ff))
	wantWords(t, "[\\t-\\r]", set(9, 13))
	wantWords(t, "[c-eba]", set('a', 'e'))
	wantWords(t, "[\\w\\W]", set(0, 0x1100ff))
	wantWords(t, "[^\\w\\W]", set())
	wantWords(t, "[\xed\x9f\xbf-\xee\x80\x80]", set(0xd7ff, 0xe000))
	wantWords(t, "[\xf4\x8f\xbf\xbf\x80]", set(0x10ffff, 0x110080))
	wantWords(t, "[{~3}]*", set('3', '3', '{', '{', '}', '~'), at(6, rep(0, -1)))
	wantWords(t, "[a]\\]", set('a', 'a'), at(3, set(']', ']')))
}

// P7.1: classes that are wrong.
func TestClassFaults(t *testing.T) {
	for s, i := range map[string]int{
		// no end, whatever else is wrong
		"[": 0, "[^": 0, "[a": 0, "[\\": 0, "[\\]": 0, "[\\\\\\]": 0, "a[": 1, "[-": 0, "[z-a": 0, "[\\1": 0, "[\\q{": 0, "[a][": 3, "\xc3\xa9[": 2,
		// no item
		"[]": 1, "[^]": 2, "[]]": 1, "[]a]": 1, "[^]a]": 2,
		// a - where an item should begin
		"[-]": 1, "[^-]": 2, "[-a]": 1, "[--a]": 1, "[a-b-c]": 4, "[a-b-]": 4, "[\\d-z]": 3, "[\\d-\\w]": 3, "[\\W-]": 3,
		// a - behind which no single stands
		"[a-]": 2, "[a--]": 2, "[a--b]": 2, "[a-\\d]": 2, "[a-\\1]": 2, "[a-\\0]": 2, "[a-\\q]": 2, "[\\n-]": 3, "[\xff-]": 2,
		// the second one below the first one
		"[b-a]": 1, "[^b-a]": 2, "[xb-a]": 2, "[x\\t-\\t\\n-\\t]": 7, "[\xff-\xfe]": 1, "[\xff-\xf4\x8f\xbf\xbf]": 1, "[a-\\-]": 1, "[.-\\-]": 1,
		// an escape that is none; a ] for nothing
		"[\\0]": 1, "[a\\q]": 2, "[\\q-a]": 1, "[a]]": 3, "[\\]]]": 4,
	} {
		wantFault(t, s, syntax(i))
	}
	wantFault(t, "[\\1]", back(1))
	wantFault(t, "[\\9-a]", back(1))
	wantFault(t, "[a-c\\2-\\1]", back(4))
}

// P7.1: every number of each form, with noughts ahead and without.
func TestNumbers(t *testing.T) {
	for m := range 300 {
		for _, noughts := range []string{"", "0", "000000000000000000000000"} {
			d := noughts + strconv.Itoa(m)
			if m > 255 {
				wantFault(t, "{"+d+"}", badNumber(1))
				wantFault(t, "{"+d+",}", badNumber(1))
				wantFault(t, "{0,"+d+"}", badNumber(3))
				wantFault(t, "{"+d+",0}", badNumber(1))
				wantFault(t, "{~"+d+"}", badNumber(2))
				continue
			}
			wantWords(t, "{"+d+"}", rep(m, m))
			wantWords(t, "{"+d+",}", rep(m, -1))
			wantWords(t, "{0,"+d+"}", rep(0, m))
			wantWords(t, "{"+d+",255}", rep(m, 255))
			wantWords(t, "{~"+d+"}", bud(m))
			wantFault(t, "{"+d+",256}", badNumber(2+len(d)))
		}
	}
	for m := range 256 {
		for n := range 256 {
			s := fmt.Sprintf("{%d,%d}", m, n)
			if n < m {
				wantFault(t, s, badNumber(strings.Index(s, ",")+1))
			} else {
				wantWords(t, s, rep(m, n))
			}
		}
	}
}

// P7.1: numbers that no integer holds, and those that wrap round to small ones.
func TestGreatNumbers(t *testing.T) {
	for _, d := range []string{"18446744073709551616", "18446744073709551617", "9223372036854775808", "4294967297", "99999999999999999999999", strings.Repeat("7", 1<<20)} {
		wantFault(t, "{"+d+"}", badNumber(1))
		wantFault(t, "{1,"+d+"}", badNumber(3))
		wantFault(t, "{"+d+","+d+"}", badNumber(1))
		wantFault(t, "{~"+d+"}", badNumber(2))
		wantFault(t, "{"+d, syntax(0))
		wantFault(t, "{~"+d+",}", syntax(0))
	}
}

// P7.1: braces whose form is none, whatever their numbers are.
func TestBraces(t *testing.T) {
	for _, s := range []string{
		"{", "{}", "{,}", "{,3}", "{a}", "{ 3}", "{3 }", "{3", "{3,", "{3,4", "{3,,4}", "{3,4,5}", "{3;4}", "{+3}", "{-3}", "{3,-4}", "{0x3}", "{3,~4}", "{\xd9\xa3}",
		"{~", "{~}", "{~3", "{~3,}", "{~3,4}", "{~,}", "{~~3}", "{~-3}", "{3~}", "{~ 3}", "{{3}}", "{3{", "{3]", "{\\3}",
		"{999", "{999,", "{999,1", "{9,1", "{~999", "{999,x}", "{2,1,}", "{~999x}",
	} {
		wantFault(t, s, syntax(0))
		wantFault(t, "\xc3\xa9{~2}"+s, syntax(6))
	}
	wantFault(t, "{3}}", syntax(3))
	wantFault(t, "{2,1}}", badNumber(3))
}

// P7.1: of several faults the first one.
func TestFirst(t *testing.T) {
	wrong := map[string]api.Fault{"\\1": back(0), "\\q": syntax(0), "]": syntax(0), "}": syntax(0), "[]": syntax(1), "[b-a]": syntax(1), "[a\\1]": back(2), "{256}": badNumber(1), "{2,1}": badNumber(3), "{x}": syntax(0)}
	for a, f := range wrong {
		for b := range wrong {
			wantFault(t, a+b, f)
			f := f
			f.At += 3
			wantFault(t, "a\xc3\xa9"+a+"a"+b, f)
		}
	}
}

// The oracle: words by patterns of the library's own, over bytes below 128.
var (
	oneEscape   = `\\(?:[ntr]|[^A-Za-z0-9])`
	aSingle     = `(?:[^\\\]\-]|` + oneEscape + `)`
	escapeForm  = regexp.MustCompile(`(?s)^(?:\\[dwsDWS]|` + oneEscape + `)`)
	classForm   = regexp.MustCompile(`(?s)^\[(\^?)((?:[^\\\]]|\\.)*)\]`)
	severalItem = regexp.MustCompile(`^\\[dwsDWS]`)
	rangeItem   = regexp.MustCompile(`(?s)^(` + aSingle + `)-(` + aSingle + `)`)
	singleItem  = regexp.MustCompile(`(?s)^` + aSingle)
	countForm   = regexp.MustCompile(`^\{(\d+)(?:(,)(\d*))?\}`)
	budgetForm  = regexp.MustCompile(`^\{~(\d+)\}`)
)

// meant: the set of an escape or of a symbol.
func meant(s string) []api.Rng {
	c := int(s[len(s)-1])
	if l := escapesOfLetters()[c]; l != nil && len(s) == 2 {
		return l
	}
	return of(c, c)
}

// badEscape: the fault of a \ at place i that begins no escape, or of a -.
func badEscape(s string, i int) api.Fault {
	if i+1 < len(s) && s[i] == '\\' && strings.Contains("123456789", s[i+1:i+2]) {
		return back(i)
	}
	return syntax(i)
}

// oracleClass: the set of a class at place i, and how many bytes it has.
func oracleClass(s string, i int) ([]api.Rng, int, api.Fault) {
	m := classForm.FindStringSubmatch(s[i:])
	if m == nil {
		return nil, 0, syntax(i)
	}
	var l []api.Rng
	p, items := i+1+len(m[1]), m[2]
	if items == "" {
		return nil, 0, syntax(p)
	}
	for items != "" {
		n := 0
		if x := severalItem.FindString(items); x != "" {
			l, n = append(l, meant(x)...), len(x)
		} else if x := rangeItem.FindStringSubmatch(items); x != nil {
			a, b := meant(x[1])[0].Lo, meant(x[2])[0].Lo
			if b < a {
				return nil, 0, syntax(p)
			}
			l, n = append(l, of(a, b)...), len(x[0])
		} else if x := singleItem.FindString(items); x != "" {
			l, n = append(l, meant(x)...), len(x)
		} else {
			return nil, 0, badEscape(s, p)
		}
		p, items = p+n, items[n:]
	}
	if m[1] != "" {
		return sets.Not(l), len(m[0]), api.Fault{}
	}
	return sets.Norm(l), len(m[0]), api.Fault{}
}

// oracleBraces: the word of braces at place i, and how many bytes it has.
func oracleBraces(s string, i int) (api.Tok, int, api.Fault) {
	over := func(d string) bool {
		n, err := strconv.Atoi(d)
		return err != nil || n > 255
	}
	number := func(d string) int {
		n, _ := strconv.Atoi(d)
		return n
	}
	if m := budgetForm.FindStringSubmatch(s[i:]); m != nil {
		if over(m[1]) {
			return api.Tok{}, 0, badNumber(i + 2)
		}
		return bud(number(m[1])), len(m[0]), api.Fault{}
	}
	m := countForm.FindStringSubmatch(s[i:])
	switch {
	case m == nil:
		return api.Tok{}, 0, syntax(i)
	case over(m[1]):
		return api.Tok{}, 0, badNumber(i + 1)
	case m[2] == "":
		return rep(number(m[1]), number(m[1])), len(m[0]), api.Fault{}
	case m[3] == "":
		return rep(number(m[1]), -1), len(m[0]), api.Fault{}
	case over(m[3]) || number(m[3]) < number(m[1]):
		return api.Tok{}, 0, badNumber(i + 2 + len(m[1]))
	}
	return rep(number(m[1]), number(m[3])), len(m[0]), api.Fault{}
}

// oracleWord: the word at place i, and how many bytes it has.
func oracleWord(s string, i int) (api.Tok, int, api.Fault) {
	fixed := map[byte]api.Tok{'(': bare(api.TOpen), ')': bare(api.TClose), '|': bare(api.TBar), '^': bare(api.TBol), '$': bare(api.TEol), '*': rep(0, -1), '+': rep(1, -1), '?': rep(0, 1), '.': set(0, 9, 11, 0x1100ff)}
	switch c := s[i]; {
	case strings.HasPrefix(s[i:], "(?:"):
		return bare(api.TPlain), 3, api.Fault{}
	case fixed[c].Kind != 0:
		return fixed[c], 1, api.Fault{}
	case c == '\\':
		if x := escapeForm.FindString(s[i:]); x != "" {
			return api.Tok{Kind: api.TSet, Set: meant(x)}, len(x), api.Fault{}
		}
		return api.Tok{}, 0, badEscape(s, i)
	case c == '[':
		l, n, f := oracleClass(s, i)
		return api.Tok{Kind: api.TSet, Set: l}, n, f
	case c == '{':
		return oracleBraces(s, i)
	case c == ']' || c == '}':
		return api.Tok{}, 0, syntax(i)
	default:
		return set(int(c), int(c)), 1, api.Fault{}
	}
}

func oracle(s string) ([]api.Tok, api.Fault) {
	var l []api.Tok
	for i := 0; i < len(s); {
		w, n, f := oracleWord(s, i)
		if f.Err != api.OK {
			return nil, f
		}
		l = append(l, at(i, w))
		i += n
	}
	return l, api.Fault{}
}

// rows: all texts of up to n of the parts, ahead of them s.
func rows(s string, parts []string, n int, do func(s string)) {
	do(s)
	if n == 0 {
		return
	}
	for _, p := range parts {
		rows(s+p, parts, n-1, do)
	}
}

// P7.1, P7.2: all short patterns against the oracle; each word, cut out, is that word alone.
func TestAgainstOracle(t *testing.T) {
	check := func(s string) {
		want, f := oracle(s)
		if f.Err != api.OK {
			wantFault(t, s, f)
			return
		}
		wantWords(t, s, want...)
		l, _ := Tokens(s)
		for i, w := range l {
			end := len(s)
			if i+1 < len(l) {
				end = l[i+1].At
			}
			wantWords(t, s[w.At:end], at(0, w))
			if !sets.Good(w.Set) {
				t.Errorf("%q: %v is not normal", s, w.Set)
			}
		}
	}
	rows("", strings.Split("\\()[]{}.*+?|^$a1:d-n", ""), 3, check)
	rows("[", strings.Split("\\]^-ab1dn", ""), 5, check)
	rows("[a-c", strings.Split("\\]^-bn", ""), 4, check)
	rows("{", strings.Split("}~,025a{", ""), 5, check)
	rows("{2,", strings.Split("}0125", ""), 4, check)
	rows("", []string{"(?:", "(", "?", ":", "\\", "[", "]", "{~3}", "{2,}", "a"}, 4, check)
}

// P7.2: words stand one behind the other, and the first one at 0.
func TestWhole(t *testing.T) {
	const s = "(?:\xc3\xa9|[^b-d\\s])+.{2,3}^$\\n{~7}\xe2\x82\xac\xe2()*?\\\xf0\x9f\x98\x80a"
	l, f := Tokens(s)
	var places []int
	for _, w := range l {
		places = append(places, w.At)
	}
	if want := []int{0, 3, 5, 6, 14, 15, 16, 17, 22, 23, 24, 26, 30, 33, 34, 35, 36, 37, 38, 43}; !slices.Equal(places, want) || f != (api.Fault{}) {
		t.Error(places, f)
	}
}

// R2: what is told is new memory, spare room too; the same call tells the same.
func TestMemory(t *testing.T) {
	const s = "\\d\\D\\w\\W\\s\\S..aa[a][a][^a]\\d\\D"
	keep, _ := Tokens(s)
	for i := range keep {
		l, _ := Tokens(s)
		spoilt := l[i].Set[:cap(l[i].Set)]
		for k := range spoilt {
			spoilt[k] = api.Rng{Lo: -7, Hi: -7}
		}
		if !same(l[:i], keep[:i]) || !same(l[i+1:], keep[i+1:]) {
			t.Errorf("word %d has memory in common with another", i)
		}
		clear(l[:cap(l)])
		if again, _ := Tokens(s); !same(again, keep) {
			t.Errorf("word %d is kept", i)
		}
	}
}

// R1: long patterns, and long ones that are wrong, are gone through in good time.
func TestLong(t *testing.T) {
	const n = 1 << 18
	for s, words := range map[string]int{
		strings.Repeat("a", n): n, strings.Repeat("(?:", n): n, strings.Repeat("[a]", n): n, strings.Repeat("{2,3}", n): n, strings.Repeat("\\W", n): n,
		"[" + strings.Repeat("\\W[b-c\\]", n) + "]": 1, "[^" + strings.Repeat("z-~", n) + "]": 1, "{" + strings.Repeat("0", n) + "}": 1,
	} {
		if l, f := Tokens(s); len(l) != words || f != (api.Fault{}) {
			t.Errorf("%.9q..: %d words, %v", s, len(l), f)
		}
	}
	wantFault(t, strings.Repeat("[", n), syntax(0))
	wantFault(t, strings.Repeat("{", n), syntax(0))
	wantFault(t, strings.Repeat("[a]", n)+"[", syntax(3*n))
	wantFault(t, strings.Repeat("\\", n+1), syntax(n))
	wantFault(t, "["+strings.Repeat("\\]", n), syntax(0))
}

// The chapter's examples.
func TestExamples(t *testing.T) {
	wantWords(t, "a{~2}", set('a', 'a'), at(1, bud(2)))
	wantWords(t, "[a-c\\d]", set('0', '9', 'a', 'c'))
}

// R1: nothing that is handed in makes it panic, and what it tells holds together.
func FuzzTokens(f *testing.F) {
	for _, s := range []string{"", "a{~2}", "[a-c\\d]", "[^\\]-\xff", "{3,2}", "(?:\\1)", "\xf0\x9f"} {
		f.Add(s)
	}
	f.Fuzz(func(t *testing.T, s string) {
		l, fault := Tokens(s)
		if fault.Err != api.OK {
			if l != nil || fault.At < 0 || fault.At >= len(s) || !utf.Is(s, fault.At) {
				t.Errorf("%q: %v %v", s, l, fault)
			}
			return
		}
		last := -1
		for _, w := range l {
			if w.At <= last || !utf.Is(s, w.At) || !sets.Good(w.Set) || w.Kind < api.TSet || w.Kind > api.TEol {
				t.Errorf("%q: %v", s, l)
			}
			last = w.At
		}
	})
}
