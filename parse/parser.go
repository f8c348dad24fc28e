package parse

import (
	"slices"

	"triglyph/api"
)

// A parser reads tokens from left to right. After its first error it sees no more tokens: whatever it is inside comes
// to an end by itself then, and the nodes of it are not used.
type parser struct {
	rest  []api.Token // what has not been taken
	end   int         // the position of the end
	fixes []api.Fix
	deep  int       // how many exprs and pats the parser is inside
	e     api.Errno // the first error
	where int       // its position
}

// A test says of a token whether it is one of those that are meant.
type test func(t api.Token) bool

// key is the test for a keyword or sign.
func key(text string) test {
	return func(t api.Token) bool { return t.Kind == api.TokKey && t.Text == text }
}

// kind is the test for the tokens of these Kinds.
func kind(kinds ...api.TokenKind) test {
	return func(t api.Token) bool { return slices.Contains(kinds, t.Kind) }
}

// either is the test for the tokens that pass one of these.
func either(tests ...test) test {
	return func(t api.Token) bool {
		return slices.ContainsFunc(tests, func(is test) bool { return is(t) })
	}
}

// sees reports whether the next tokens pass these tests, one after the other.
func (p *parser) sees(tests ...test) bool {
	if len(p.rest) < len(tests) {
		return false
	}
	for i, is := range tests {
		if !is(p.rest[i]) {
			return false
		}
	}
	return true
}

// take takes the next token. It is an error if there is none, or if it does not pass the test.
func (p *parser) take(is test) api.Token {
	if !p.sees(is) {
		p.fail(p.here(), api.ErrParseToken)
		return api.Token{}
	}
	t := p.rest[0]
	p.rest = p.rest[1:]
	return t
}

// here returns the position of the next token, or of the end.
func (p *parser) here() int {
	if len(p.rest) == 0 {
		return p.end
	}
	return p.rest[0].At
}

// fail ends the reading with an error, unless there has been one before.
func (p *parser) fail(where int, e api.Errno) {
	if p.e == api.OK {
		p.where, p.e = where, e
	}
	p.rest = nil
}

// nested reads an expr or a pat by read. It is an error if the parser is inside too many of them already.
func (p *parser) nested(read func() []api.Node) []api.Node {
	if p.deep == api.MaxDeep {
		p.fail(p.here(), api.ErrParseDeep)
		return nil
	}
	p.deep++
	l := read()
	p.deep--
	return l
}
