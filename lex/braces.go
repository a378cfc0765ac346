package lex

import "obelus/api"

// number: decimal digits of a pattern. Where the first one stands, and what
// they say, or tooGreat.
type number struct{ at, value int }

// tooGreat: above all that a number may be. Digits, however many, are held
// down to it, so that none wraps round.
const tooGreat = api.MaxRep + api.MaxBudget + 1

// braces: a word that begins with {.
func (r *reader) braces() (api.Tok, api.Fault) {
	from := r.at
	r.take()
	read := r.repeatForm
	if r.skip('~') {
		read = r.budgetForm
	}
	word, fault, ok := read()
	if !ok {
		return api.Tok{}, syntaxAt(from)
	}
	if fault.Err != api.OK {
		return api.Tok{}, fault
	}
	return word, api.Fault{}
}

// budgetForm: what stands behind {~; false, if that is not the form.
func (r *reader) budgetForm() (api.Tok, api.Fault, bool) {
	k, ok := r.number()
	if !ok || !r.skip('}') {
		return api.Tok{}, api.Fault{}, false
	}
	return api.Tok{Kind: api.TBud, Min: k.value}, k.within(0, api.MaxBudget), true
}

// repeatForm: what stands behind a { without ~; false, if that is none of the
// forms. Its numbers are judged when its } is found: a form comes first.
func (r *reader) repeatForm() (api.Tok, api.Fault, bool) {
	m, ok := r.number()
	if !ok {
		return api.Tok{}, api.Fault{}, false
	}
	word := api.Tok{Kind: api.TRep, Min: m.value, Max: m.value}
	fault := m.within(0, api.MaxRep)
	if r.skip(',') {
		word.Max = -1
		if n, ok := r.number(); ok {
			word.Max = n.value
			fault = first(fault, n.within(m.value, api.MaxRep))
		}
	}
	return word, fault, r.skip('}')
}

// number: the digits at the reader's place; false, if there are none.
func (r *reader) number() (number, bool) {
	n := number{at: r.at}
	for r.at < len(r.text) && r.text[r.at] >= '0' && r.text[r.at] <= '9' {
		n.value = min(n.value*10+int(r.text[r.at]-'0'), tooGreat)
		r.at++
	}
	return n, r.at > n.at
}

// within: the fault of a number that is below least or above most.
func (n number) within(least, most int) api.Fault {
	if n.value < least || n.value > most {
		return api.Fault{Err: api.ErrNumber, At: n.at}
	}
	return api.Fault{}
}

// first: a, if it is a fault; else b.
func first(a, b api.Fault) api.Fault {
	if a.Err != api.OK {
		return a
	}
	return b
}
