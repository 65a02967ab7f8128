package query

import (
	"tendril/api"
	"tendril/token"
)

// Parse returns the query that a text stands for.
func Parse(s string) ([]api.Part, api.Errno) {
	if len(s) > api.MaxText {
		return nil, api.ErrLong
	}
	p := parser{text: s}
	// A factor within no other one is one level deep, not none.
	if p.disjunction(1) && !p.atEnd() {
		p.refuse(api.ErrQuery)
	}
	if p.err != api.OK {
		return nil, p.err
	}
	return p.parts, api.OK
}

// parser reads a text from left to right, up to its first error. Its methods
// report whether there was none.
type parser struct {
	text  string
	at    int
	parts []api.Part
	err   api.Errno
}

// disjunction reads conjunctions whose factors are nested so deep.
func (p *parser) disjunction(depth int) bool {
	for first := true; ; first = false {
		if !p.conjunction(depth) || !first && !p.emit(api.Part{Kind: api.QOr}) {
			return false
		}
		if !p.accept('|') {
			return true
		}
	}
}

// conjunction reads factors that are nested so deep.
func (p *parser) conjunction(depth int) bool {
	for first := true; ; first = false {
		if !p.factor(depth) || !first && !p.emit(api.Part{Kind: api.QAnd}) {
			return false
		}
		if p.atEnd() || p.sees('|') || p.sees(')') {
			return true
		}
		p.accept('&')
	}
}

// factor reads a factor that is nested so deep.
func (p *parser) factor(depth int) bool {
	switch {
	case depth > api.MaxQuery:
		return p.refuse(api.ErrLong)
	case p.accept('!'):
		return p.factor(depth+1) && p.emit(api.Part{Kind: api.QNot})
	case p.accept('('):
		return p.disjunction(depth+1) && (p.accept(')') || p.refuse(api.ErrQuery))
	case p.atEnd() || token.Letter(p.text[p.at]) == 0:
		return p.refuse(api.ErrQuery)
	}
	return p.word()
}

// word reads a word that begins here.
func (p *parser) word() bool {
	var word []byte
	for ; p.at < len(p.text) && token.Letter(p.text[p.at]) != 0; p.at++ {
		word = append(word, token.Letter(p.text[p.at]))
	}
	if len(word) > api.MaxTerm {
		return p.refuse(api.ErrTerm)
	}
	return p.emit(api.Part{Kind: api.QTerm, Term: string(word)})
}

// emit appends a part to the query.
func (p *parser) emit(part api.Part) bool {
	if len(p.parts) == api.MaxQuery {
		return p.refuse(api.ErrLong)
	}
	p.parts = append(p.parts, part)
	return true
}

// refuse ends the reading with an error.
func (p *parser) refuse(e api.Errno) bool {
	p.err = e
	return false
}

// atEnd reports whether nothing but spaces follows.
func (p *parser) atEnd() bool {
	for p.at < len(p.text) && p.text[p.at] == ' ' {
		p.at++
	}
	return p.at == len(p.text)
}

// sees reports whether c is the next symbol.
func (p *parser) sees(c byte) bool { return !p.atEnd() && p.text[p.at] == c }

// accept passes over c, if it is the next symbol.
func (p *parser) accept(c byte) bool {
	if !p.sees(c) {
		return false
	}
	p.at++
	return true
}
