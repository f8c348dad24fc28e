package parse_test

import (
	"slices"
	"strings"
	"testing"

	"triglyph/api"
	"triglyph/lex"
	"triglyph/parse"
	"triglyph/syn"
)

// lexed returns the tokens of s, with positions that are no matter of course: they decrease.
func lexed(t *testing.T, s string) []api.Token {
	t.Helper()
	l, at, e := lex.Lex(s)
	if e != api.OK {
		t.Fatalf("%q: %d at %d", s, e, at)
	}
	return placed(l)
}

// placed returns the tokens with positions that decrease.
func placed(l []api.Token) []api.Token {
	l = slices.Clone(l)
	for i := range l {
		l[i].At = 1000 - 7*i
	}
	return l
}

// shown returns the spellings of tokens, or something like it.
func shown(l []api.Token) string {
	s, _ := lex.Show(l)
	return s
}

// compare compares Tokens with the model, and returns what the model tells.
func compare(t *testing.T, m *model, l []api.Token) told {
	t.Helper()
	const end = -3
	want := m.tokens(l, end)
	exp, at, e := parse.Tokens(l, end, fixes())
	if !slices.Equal(exp, want.l) || at != want.at || e != want.e {
		t.Fatalf("%q: %s, %d at %d; not %s, %d at %d", shown(l), shape(exp), e, at, shape(want.l), want.e, want.at)
	}
	return want
}

// grow compares Tokens with the model for all tokens that begin with l and end with at most more of words; those that
// follow what cannot be continued are left out. It counts the expressions that it comes upon.
func grow(t *testing.T, m *model, l, words []api.Token, more int) int {
	t.Helper()
	found := 0
	want := compare(t, m, placed(l))
	if want.e == api.OK {
		found++
	}
	if more == 0 || !want.open {
		return found
	}
	for _, w := range words {
		found += grow(t, m, append(slices.Clip(l), w), words, more-1)
	}
	return found
}

// everyWord are tokens of all sorts: each key, operators of all fixities and of none, and one of an unknown Kind.
const everyWord = `x f A 1 "s" + :: < % fun let rec in if then else match with end raise try -> = | ( ) _ ;; of`

// P7.1: Tokens is as the grammar says, for all tokens up to a few, in different surroundings.
func TestAllShort(t *testing.T) {
	m := newModel()
	found := 0
	for _, x := range []struct {
		before, words string
		more          int
	}{
		{"", everyWord, 4},
		{"", "x + :: & < % ( )", 7},
		{"x", "x + * ( )", 8},
		{"match x with", everyWord, 3},
		{"match x with", "x A 1 _ ( ) + ->", 6},
		{"match x with A", `x B ( ) _ "s" ;;`, 6},
		{"match x with _ -> x", everyWord, 3},
		{"match match x with _ -> x end with x -> x", "x | end A -> +", 6},
		{"let", everyWord, 3},
		{"let rec x =", "fun x -> 1 in ( )", 7},
		{"if x", "x 1 if then else + in", 7},
		{"try x", "x try with -> ( + ) raise", 6},
		{"( fun x -> x", everyWord, 2},
		{"f ( let x = 1 in", everyWord, 2},
	} {
		words := append(lexed(t, x.words), api.Token{Kind: 99, Text: "x"})
		found += grow(t, m, lexed(t, x.before), words, x.more)
	}
	if found < 5000 {
		t.Errorf("%d expressions only", found)
	}
}

// P7.1: ErrParseDeep is where the grammar says, behind anything that nests.
func TestAllShortDeep(t *testing.T) {
	m := newModel()
	found := 0
	for _, x := range []struct{ before, again string }{
		{"", "("}, {"", "fun x ->"}, {"", "raise"}, {"", "if"}, {"", "try"}, {"", "let x ="}, {"", "let x = 1 in"}, {"", "x + ("}, {"", "match"}, {"", "match x with _ ->"}, {"match x with", "("}, {"match x with", "A ("}, {"match x with", "A B ("}, {"match x with _ -> x |", "A _ ("},
	} {
		for times := 97; times <= 100; times++ {
			l := lexed(t, x.before+strings.Repeat(" "+x.again, times))
			found += grow(t, m, l, lexed(t, "x A + ( ) ->"), 2)
			found += grow(t, m, l, lexed(t, everyWord), 1)
		}
	}
	if found < 20 {
		t.Errorf("%d expressions only", found)
	}
}

// A source tells numbers by a rule that is the same in each run.
type source uint32

func (s *source) below(n int) int {
	*s = *s*1664525 + 1013904223
	return int(*s>>8) % n
}

// token tells a token that the symbol stands for.
func (s *source) token(symbol string) api.Token {
	t := api.Token{Kind: kindOf(symbol)}
	switch t.Kind {
	case api.TokKey:
		t.Text = symbol
	case api.TokInt:
		t.Num = int64(s.below(9)) - 4
	case api.TokText:
		t.Text = []string{"", "a b", "\xff\n"}[s.below(3)]
	case api.TokCon:
		t.Text = []string{"A", "B", "Cons"}[s.below(3)]
	case api.TokName:
		t.Text = []string{"x", "y", "f'", "lets"}[s.below(4)]
	default:
		t.Text = []string{"+", "*", "::", "+", "*", "::", "&", "<", "<", "%"}[s.below(10)]
	}
	return t
}

// sentence appends to l tokens that the symbol stands for; the rules of g say so, and as soon as there are size
// tokens, only the cheap ones.
func (s *source) sentence(l []api.Token, symbol string, size int) []api.Token {
	g, known := grammar()[symbol]
	if !known {
		return append(l, s.token(symbol))
	}
	rules := g.rules
	if len(l) >= size {
		rules = rules[:g.cheap]
	}
	for _, part := range strings.Fields(rules[s.below(len(rules))]) {
		l = s.sentence(l, part, size)
	}
	return l
}

// changed returns l with one token taken out, put in, put instead of another one, or exchanged with another one.
func (s *source) changed(l []api.Token, words []api.Token) []api.Token {
	at, w := s.below(len(l)), words[s.below(len(words))]
	switch s.below(4) {
	case 0:
		return slices.Concat(l[:at], l[at+1:])
	case 1:
		return slices.Concat(l[:at], []api.Token{w}, l[at:])
	case 2:
		return slices.Concat(l[:at], []api.Token{w}, l[at+1:])
	}
	l = slices.Clone(l)
	other := s.below(len(l))
	l[at], l[other] = l[other], l[at]
	return l
}

// sentences are expressions of up to about 40 tokens.
func sentences(n int) [][]api.Token {
	s := source(1)
	var all [][]api.Token
	for range n {
		all = append(all, placed(s.sentence(nil, "expr", s.below(40))))
	}
	return all
}

// P7.1: Tokens is as the grammar says, for greater expressions and for what comes of them by one or two changes.
func TestSentences(t *testing.T) {
	m := newModel()
	s := source(2)
	words := lexed(t, everyWord)
	found := map[api.Errno]int{}
	for _, l := range sentences(1500) {
		found[compare(t, m, l).e]++
		for range 4 {
			once := s.changed(l, words)
			found[compare(t, m, placed(once)).e]++
			if len(once) > 0 {
				found[compare(t, m, placed(s.changed(once, words))).e]++
			}
		}
	}
	for _, e := range []api.Errno{api.OK, api.ErrParseToken, api.ErrParseFix, api.ErrParseClash, api.ErrParseTree} {
		if found[e] < 20 {
			t.Errorf("%d is found %d times only", e, found[e])
		}
	}
}

// P7.2: Parse is Lex and Tokens: the tokens of a text, however they are spelled, and its positions.
func TestParseOfSentences(t *testing.T) {
	for _, l := range sentences(1500) {
		want, _, e := parse.Tokens(l, 0, fixes())
		s := shown(l)
		got, at, e2 := parse.Parse(s, fixes())
		if e != e2 || !slices.Equal(got, want) {
			t.Fatalf("%q: %d at %d, not %d", s, e2, at, e)
		}
		real, _, _ := lex.Lex(s)
		if _, at2, _ := parse.Tokens(real, len(s), fixes()); at != at2 {
			t.Fatalf("%q: at %d, not %d", s, at, at2)
		}
	}
}

// P7.3: an expression in parentheses is the same one, as are its parts.
func TestParentheses(t *testing.T) {
	for _, l := range sentences(1500) {
		want, at, e := parse.Tokens(l, 0, fixes())
		got, at2, e2 := parse.Tokens(lexed(t, "("+shown(l)+")"), 0, fixes())
		if e != e2 || !slices.Equal(got, want) {
			t.Fatalf("%q: %d at %d, not %d at %d", shown(l), e2, at2, e, at)
		}
	}
	for _, x := range []struct{ bare, with string }{
		{"f x y", "(((f) (x)) (y))"}, {"a + b * c", "(a) + ((b) * (c))"}, {"a + b + c", "(a + b) + c"}, {"a :: b :: c", "a :: (b :: c)"}, {"(+) a", "((+)) a"}, {"fun x -> x + 1", "fun x -> ((x) + (1))"}, {"match x with A (B y) -> y end", "(match (x) with (A (B (y))) -> (y) end)"}, {"if a then b else c", "if (a) then (b) else (c)"}, {"a + match x with _ -> y end", "a + (match x with _ -> y end)"},
	} {
		a, _, e := parse.Parse(x.bare, fixes())
		b, _, e2 := parse.Parse(x.with, fixes())
		if e != api.OK || e2 != api.OK || !slices.Equal(a, b) {
			t.Errorf("%q: %d %s, %q: %d %s", x.bare, e, shape(a), x.with, e2, shape(b))
		}
	}
}

// Whatever Tokens returns is an expression.
func TestResultsAreExpressions(t *testing.T) {
	for _, l := range sentences(1500) {
		if exp, _, e := parse.Tokens(l, 0, fixes()); e == api.OK && syn.Check(exp) != api.OK {
			t.Fatalf("%q: %s", shown(l), shape(exp))
		}
	}
}
