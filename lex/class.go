package lex

import (
	"obelus/api"
	"obelus/sets"
)

// escape: a word that begins with \.
func (r *reader) escape() (api.Tok, api.Fault) {
	x, l, fault := r.escaped()
	if fault.Err != api.OK {
		return api.Tok{}, fault
	}
	if x >= 0 {
		l = one(x)
	}
	return setWord(l)
}

// escaped: what the escape at the reader's place stands for: its one symbol,
// or -1 and the normal set of its several ones.
func (r *reader) escaped() (int, []api.Rng, api.Fault) {
	from := r.at
	r.take()
	x := r.take()
	if l := several(x); l != nil {
		return -1, l, api.Fault{}
	}
	if x >= '1' && x <= '9' {
		return -1, nil, api.Fault{Err: api.ErrBack, At: from}
	}
	y := single(x)
	if y < 0 {
		return -1, nil, syntaxAt(from)
	}
	return y, nil, api.Fault{}
}

// several: the normal set of \ and x, if that stands for several symbols.
func several(x int) []api.Rng {
	switch x {
	case 'd':
		return []api.Rng{{Lo: '0', Hi: '9'}}
	case 'w':
		return []api.Rng{{Lo: '0', Hi: '9'}, {Lo: 'A', Hi: 'Z'}, {Lo: '_', Hi: '_'}, {Lo: 'a', Hi: 'z'}}
	case 's':
		return []api.Rng{{Lo: 9, Hi: 13}, {Lo: ' ', Hi: ' '}}
	case 'D':
		return sets.Not(several('d'))
	case 'W':
		return sets.Not(several('w'))
	case 'S':
		return sets.Not(several('s'))
	}
	return nil
}

// single: the symbol of \ and x, if that stands for one; else -1, as of the
// -1 behind which the text has ended.
func single(x int) int {
	switch {
	case x == 'n':
		return 10
	case x == 't':
		return 9
	case x == 'r':
		return 13
	case x >= 'a' && x <= 'z', x >= 'A' && x <= 'Z', x >= '0' && x <= '9':
		return -1
	}
	return x
}

// class: a word that begins with [.
func (r *reader) class() (api.Tok, api.Fault) {
	from := r.at
	end, ok := r.classEnd()
	if !ok {
		return api.Tok{}, syntaxAt(from)
	}
	r.take()
	others := r.skip('^')
	if r.at == end {
		return api.Tok{}, syntaxAt(end)
	}
	var l []api.Rng
	// Items can't go past the end: they take symbols along just as classEnd does.
	for r.at < end {
		item, fault := r.item()
		if fault.Err != api.OK {
			return api.Tok{}, fault
		}
		l = append(l, item...)
	}
	r.take()
	if others {
		return setWord(sets.Not(l))
	}
	return setWord(sets.Norm(l))
}

// classEnd: the place of the ] that ends the class at the reader's place, which stays.
func (r *reader) classEnd() (int, bool) {
	ahead := reader{text: r.text, at: r.at}
	for {
		end := ahead.at
		switch ahead.take() {
		case ']':
			return end, true
		case '\\':
			ahead.take()
		case -1:
			return 0, false
		}
	}
}

// item: the symbols of the item at the reader's place in a class.
func (r *reader) item() ([]api.Rng, api.Fault) {
	from := r.at
	lo, l, fault := r.unit()
	if fault.Err != api.OK || lo < 0 {
		return l, fault
	}
	dash := r.at
	if !r.skip('-') {
		return one(lo), api.Fault{}
	}
	// What is wrong behind the - (an escape, too) is told at the -, where no single follows.
	hi, _, fault := r.unit()
	if fault.Err != api.OK || hi < 0 {
		return nil, syntaxAt(dash)
	}
	if hi < lo {
		return nil, syntaxAt(from)
	}
	return []api.Rng{{Lo: lo, Hi: hi}}, api.Fault{}
}

// unit: the single at the reader's place in a class, or -1 and the set of an
// escape of several symbols.
func (r *reader) unit() (int, []api.Rng, api.Fault) {
	switch r.text[r.at] {
	case '\\':
		return r.escaped()
	case '-', ']':
		return -1, nil, syntaxAt(r.at)
	}
	return r.take(), nil, api.Fault{}
}
