package lex_test

import (
	"math"
	"math/big"
	"regexp"
	"slices"
	"strconv"
	"strings"
	"testing"

	"triglyph/api"
	"triglyph/lex"
)

// keys are the keywords and signs of the language.
var keys = strings.Fields("let rec in fun if then else match with end raise try open type of infixl infixr infix -> = | ( ) _ ;;")

// Tokens by kind, without At.
func name(s string) api.Token   { return api.Token{Kind: api.TokName, Text: s} }
func con(s string) api.Token    { return api.Token{Kind: api.TokCon, Text: s} }
func num(n int64) api.Token     { return api.Token{Kind: api.TokInt, Num: n} }
func text(s string) api.Token   { return api.Token{Kind: api.TokText, Text: s} }
func oper(s string) api.Token   { return api.Token{Kind: api.TokOp, Text: s} }
func key(s string) api.Token    { return api.Token{Kind: api.TokKey, Text: s} }
func many(n int) []api.Token    { return slices.Repeat([]api.Token{name("a")}, n) }
func a(n int) string            { return strings.Repeat("a", n) }
func quoted(body string) string { return `"` + body + `"` }

func TestKey(t *testing.T) {
	for _, s := range keys {
		if !lex.Key(s) {
			t.Errorf("Key(%q) is false", s)
		}
	}
	for _, s := range []string{"", " ", "le", "lett", "Let", "LET", " let", "let ", ";", ";;;", "; ;", "-", ">", "->>", "<-", "==", "||", "()", "__", "'", "infixx", "_a", "a", "0", "~", "#", `"`, "\x00", "é", "when", "and", "do"} {
		if lex.Key(s) {
			t.Errorf("Key(%q) is true", s)
		}
	}
}

// valid are valid tokens, with their spellings.
var valid = []struct {
	t    api.Token
	word string
}{
	{name("a"), "a"}, {name("z"), "z"}, {name("f'"), "f'"}, {name("x_1"), "x_1"}, {name("lEt"), "lEt"}, {name("lets"), "lets"}, {name("aAzZ09_'"), "aAzZ09_'"}, {name(a(300)), a(300)},
	{con("A"), "A"}, {con("Z"), "Z"}, {con("Cons"), "Cons"}, {con("Let"), "Let"}, {con("A_'9z"), "A_'9z"}, {con("A" + a(300)), "A" + a(300)},
	{num(0), "0"}, {num(7), "7"}, {num(-7), "~7"}, {num(api.MaxInt), "4611686018427387903"}, {num(api.MinInt), "~4611686018427387904"},
	{text(""), `""`}, {text("let"), `"let"`}, {text("a\"\x00"), `"a\"\x00"`}, {text(a(200)), quoted(a(200))}, {text(strings.Repeat("\xff", 200)), quoted(strings.Repeat(`\xff`, 200))},
	{oper("!"), "!"}, {oper("||"), "||"}, {oper("=="), "=="}, {oper("->>"), "->>"}, {oper("-"), "-"}, {oper("!$%&*+-/:<=>?@^|"), "!$%&*+-/:<=>?@^|"}, {oper(strings.Repeat("+", 300)), strings.Repeat("+", 300)},
	{key("let"), "let"}, {key("->"), "->"}, {key(";;"), ";;"}, {key("_"), "_"}, {key("("), "("},
}

// invalid are tokens that are not valid.
var invalid = []api.Token{
	{}, {Kind: 7, Text: "a"}, {Kind: -1, Text: "a"}, {Kind: math.MaxInt}, {Kind: math.MinInt},
	name(""), name("A"), name("a b"), name("a "), name(" a"), name("1a"), name("_a"), name("'a"), name("a-"), name("a."), name("é"), name("aé"), name("a\x80"), name("\xe1"), name("a\x00"), name("{"), name("`"), name("a{"), name("a@"), name("a["),
	{Kind: api.TokName, Text: "a", Num: 1}, {Kind: api.TokName, Text: "a", At: -1},
	con(""), con("a"), con("let"), con("A B"), con("1"), con("_"), con("É"), con("AÉ"), con("@"), con("["), con("A-"),
	{Kind: api.TokCon, Text: "A", Num: -1}, {Kind: api.TokCon, Text: "A", At: -1},
	num(api.MaxInt + 1), num(api.MinInt - 1), num(math.MaxInt64), num(math.MinInt64),
	{Kind: api.TokInt, Text: "1"}, {Kind: api.TokInt, Text: "0", Num: 0}, {Kind: api.TokInt, Num: 1, At: -1},
	text(a(201)), {Kind: api.TokText, Text: "a", Num: 1}, {Kind: api.TokText, At: math.MinInt},
	oper(""), oper("->"), oper("="), oper("|"), oper("a"), oper("+ "), oper("+~"), oper("+#"), oper("(+"), oper(";;"), oper("_"), oper("+é"), oper("×"), oper(","), oper("."), oper("+\\"),
	{Kind: api.TokOp, Text: "+", Num: 1}, {Kind: api.TokOp, Text: "+", At: -1},
	key(""), key("a"), key("+"), key(";"), key("Let"), key("1"),
	{Kind: api.TokKey, Text: "in", Num: 1}, {Kind: api.TokKey, Text: "in", At: -1},
}

func TestRightAndWord(t *testing.T) {
	for _, x := range valid {
		for _, at := range []int{0, 1, math.MaxInt} {
			x.t.At = at
			if !lex.Right(x.t) {
				t.Errorf("Right(%+v) is false", x.t)
			}
			if w := lex.Word(x.t); w != x.word {
				t.Errorf("Word(%+v) = %q", x.t, w)
			}
		}
	}
	for _, s := range keys {
		if !lex.Right(key(s)) || lex.Word(key(s)) != s {
			t.Errorf("the key %q", s)
		}
		if lex.Right(name(s)) || lex.Right(con(s)) || lex.Right(oper(s)) {
			t.Errorf("the key %q is valid as a token of another kind", s)
		}
	}
	for _, x := range invalid {
		if lex.Right(x) {
			t.Errorf("Right(%+v) is true", x)
		}
		if w := lex.Word(x); w != "" {
			t.Errorf("Word(%+v) = %q", x, w)
		}
	}
}

// TestRightOfBytes asks for each byte which kinds of tokens it can begin, and which it can stand in.
func TestRightOfBytes(t *testing.T) {
	const tails = "abcdefghijklmnopqrstuvwxyzABCDEFGHIJKLMNOPQRSTUVWXYZ0123456789_'"
	const operators = "!$%&*+-/:<=>?@^|"
	for b := range 256 {
		s := string([]byte{byte(b)})
		in := func(set string) bool { return strings.Contains(set, s) }
		for _, x := range []struct {
			t    api.Token
			want bool
		}{
			{name(s), in(tails[:26])},
			{con(s), in(tails[26:52])},
			{name("a" + s), in(tails)},
			{name("a" + s + "a"), in(tails)},
			{con("A" + s), in(tails)},
			{oper(s), in(operators) && s != "=" && s != "|"},
			{oper("+" + s), in(operators)},
			{oper(s + "+"), in(operators)},
			{key(s), in("()_=|")},
		} {
			if got := lex.Right(x.t); got != x.want {
				t.Errorf("Right(%+v) = %v", x.t, got)
			}
		}
	}
}

func TestQuote(t *testing.T) {
	for _, x := range []struct{ s, want string }{
		{"", `""`}, {"a", `"a"`}, {"a\"\\\n\x7f~ ", `"a\"\\\n\x7f~ "`}, {"\x00\x1f\x09\r", `"\x00\x1f\x09\x0d"`}, {"é", `"\xc3\xa9"`}, {"\xff\x80", `"\xff\x80"`}, {"\ufffd", `"\xef\xbf\xbd"`}, {"# '(", `"# '("`},
		{a(1000), quoted(a(1000))},
	} {
		if q := lex.Quote(x.s); q != x.want {
			t.Errorf("Quote(%q) = %s", x.s, q)
		}
	}
	for b := range 256 {
		want := `\x` + strconv.FormatInt(int64(b)+0x100, 16)[1:]
		switch {
		case b == '\n':
			want = `\n`
		case b == '"' || b == '\\':
			want = `\` + string(rune(b))
		case 32 <= b && b <= 126:
			want = string(rune(b))
		}
		if q := lex.Quote("<" + string([]byte{byte(b)}) + ">"); q != quoted("<"+want+">") {
			t.Errorf("Quote of the byte %d is %s", b, q)
		}
	}
}

func TestSame(t *testing.T) {
	l := []api.Token{name("a"), num(1), key("let")}
	moved := slices.Clone(l)
	for i := range moved {
		moved[i].At = 10 * i
	}
	invalid := []api.Token{{Kind: 9, Text: "?", Num: 3, At: -4}}
	for _, x := range []struct {
		what string
		a, b []api.Token
		want bool
	}{
		{"nothing", nil, nil, true},
		{"nil and empty", nil, []api.Token{}, true},
		{"itself", l, l, true},
		{"other At", l, moved, true},
		{"tokens that are not valid", invalid, invalid, true},
		{"one more", l, append(slices.Clone(l), name("a")), false},
		{"none", l, nil, false},
		{"the first two", l[:2], l, false},
		{"another kind", []api.Token{name("a")}, []api.Token{con("a")}, false},
		{"another text", []api.Token{name("a")}, []api.Token{name("b")}, false},
		{"another number", []api.Token{num(1)}, []api.Token{num(2)}, false},
		{"another first one", l, append([]api.Token{name("b")}, l[1:]...), false},
		{"another last one", l, append(slices.Clone(l[:2]), key("rec")), false},
		{"another order", l[:2], []api.Token{l[1], l[0]}, false},
	} {
		if lex.Same(x.a, x.b) != x.want || lex.Same(x.b, x.a) != x.want {
			t.Errorf("Same, %s: not %v", x.what, x.want)
		}
	}
	if moved[2].At != 20 || l[2].At != 0 {
		t.Error("Same has changed an argument")
	}
}

// at gives tokens their positions.
func at(l []api.Token, positions ...int) []api.Token {
	for i := range l {
		l[i].At = positions[i]
	}
	return l
}

func TestLex(t *testing.T) {
	for _, x := range []struct {
		s    string
		want []api.Token
	}{
		{"fun x->x+~1", at([]api.Token{key("fun"), name("x"), key("->"), name("x"), oper("+"), num(-1)}, 0, 4, 5, 7, 8, 9)},
		{"", nil}, {" \n", nil}, {"# x", nil}, {"#\n#", nil}, {"#", nil}, {"# \t\xff{ \"", nil},
		{" \n  a", at([]api.Token{name("a")}, 4)},
		{"a#b\nc # d", at([]api.Token{name("a"), name("c")}, 0, 4)},
		{"#\xc3\n#é\na", at([]api.Token{name("a")}, 7)},
		{"##\n\n #\n#x#\na", at([]api.Token{name("a")}, 11)},
		{"+#+\n+", at([]api.Token{oper("+"), oper("+")}, 0, 4)},
		{"1#\n2", at([]api.Token{num(1), num(2)}, 0, 3)},
		{"let lets Let le", at([]api.Token{key("let"), name("lets"), con("Let"), name("le")}, 0, 4, 9, 13)},
		{"_ab a_b __", at([]api.Token{key("_"), name("ab"), name("a_b"), key("_"), key("_")}, 0, 1, 4, 8, 9)},
		{"12ab 1~2 ~3~4", at([]api.Token{num(12), name("ab"), num(1), num(-2), num(-3), num(-4)}, 0, 2, 5, 6, 9, 11)},
		{"a'b'", at([]api.Token{name("a'b'")}, 0)},
		{"x-1", at([]api.Token{name("x"), oper("-"), num(1)}, 0, 1, 2)},
		{"==> = -> ->- |", at([]api.Token{oper("==>"), key("="), key("->"), oper("->-"), key("|")}, 0, 4, 6, 9, 13)},
		{"()(())", at([]api.Token{key("("), key(")"), key("("), key("("), key(")"), key(")")}, 0, 1, 2, 3, 4, 5)},
		{";;;;", at([]api.Token{key(";;"), key(";;")}, 0, 2)},
		{"!$%&*+-/:<=>?@^|", at([]api.Token{oper("!$%&*+-/:<=>?@^|")}, 0)},
		{`"" "a""b"`, at([]api.Token{text(""), text("a"), text("b")}, 0, 3, 6)},
		{`"\\" "\"" "\n\x0a\xff\x00"`, at([]api.Token{text(`\`), text(`"`), text("\n\n\xff\x00")}, 0, 5, 10)},
		{`"# not a comment"#`, at([]api.Token{text("# not a comment")}, 0)},
		{`a"b"c`, at([]api.Token{name("a"), text("b"), name("c")}, 0, 1, 4)},
		{"4611686018427387903 ~4611686018427387904", at([]api.Token{num(api.MaxInt), num(api.MinInt)}, 0, 20)},
		{quoted(a(200)), at([]api.Token{text(a(200))}, 0)},
		{quoted(strings.Repeat(`\x61`, 200)), at([]api.Token{text(a(200))}, 0)},
	} {
		l, pos, e := lex.Lex(x.s)
		if !slices.Equal(l, x.want) || pos != 0 || e != api.OK {
			t.Errorf("Lex(%q) = %+v, %d, %d", x.s, l, pos, e)
		}
	}
}

func TestLexErrors(t *testing.T) {
	for _, x := range []struct {
		s   string
		pos int
		e   api.Errno
	}{
		{"a ;", 2, api.ErrLexByte}, {"a; ;", 1, api.ErrLexByte}, {";;;", 2, api.ErrLexByte}, {";", 0, api.ErrLexByte}, {";a", 0, api.ErrLexByte},
		{"\t", 0, api.ErrLexByte}, {"\r\n", 0, api.ErrLexByte}, {"a {", 2, api.ErrLexByte}, {"'a", 0, api.ErrLexByte}, {"[", 0, api.ErrLexByte}, {"a.b", 1, api.ErrLexByte}, {"é", 0, api.ErrLexByte}, {"aé", 1, api.ErrLexByte}, {"+×", 1, api.ErrLexByte}, {"a\xff", 1, api.ErrLexByte}, {"\x00", 0, api.ErrLexByte}, {"#\n\\", 2, api.ErrLexByte}, {",", 0, api.ErrLexByte}, {"`", 0, api.ErrLexByte},
		{"x 01", 2, api.ErrLexNumber}, {"00", 0, api.ErrLexNumber}, {"~", 0, api.ErrLexNumber}, {"~0", 0, api.ErrLexNumber}, {"~01", 0, api.ErrLexNumber}, {"~~1", 0, api.ErrLexNumber}, {"1~", 1, api.ErrLexNumber}, {"~a", 0, api.ErrLexNumber}, {"~ 1", 0, api.ErrLexNumber},
		{"4611686018427387904", 0, api.ErrLexNumber}, {" ~4611686018427387905", 1, api.ErrLexNumber}, {"18446744073709551617", 0, api.ErrLexNumber}, {strings.Repeat("9", 10000), 0, api.ErrLexNumber},
		{` "a`, 1, api.ErrLexText}, {"\"\n\"", 0, api.ErrLexText}, {"\"a\nb\"", 0, api.ErrLexText}, {`"\q"`, 0, api.ErrLexText}, {`"\x0"`, 0, api.ErrLexText}, {`"\x0A"`, 0, api.ErrLexText}, {`"\xg0"`, 0, api.ErrLexText}, {`"\`, 0, api.ErrLexText}, {`"\"`, 0, api.ErrLexText}, {`"`, 0, api.ErrLexText}, {`"\x`, 0, api.ErrLexText}, {`"\x0`, 0, api.ErrLexText}, {`"\x00`, 0, api.ErrLexText}, {`"\N"`, 0, api.ErrLexText}, {`"\X00"`, 0, api.ErrLexText}, {"\"\\\n\"", 0, api.ErrLexText}, {"\"\x1f\"", 0, api.ErrLexText}, {"\"\x7f\"", 0, api.ErrLexText}, {"\"\x80\"", 0, api.ErrLexText}, {"a \"é\"", 2, api.ErrLexText},
		{quoted(a(201)), 0, api.ErrLexText}, {"x" + quoted(a(199)+`\n\n`), 1, api.ErrLexText}, {quoted(strings.Repeat(`\x61`, 201)), 0, api.ErrLexText},
		{"{ 01", 0, api.ErrLexByte}, {"01 {", 0, api.ErrLexNumber}, {`"\q" 01`, 0, api.ErrLexText},
	} {
		if l, pos, e := lex.Lex(x.s); l != nil || pos != x.pos || e != x.e {
			t.Errorf("Lex(%.40q) = %v, %d, %d; not at %d, %d", x.s, l, pos, e, x.pos, x.e)
		}
	}
}

func TestLexMany(t *testing.T) {
	most := strings.Repeat("a ", api.MaxNodes)
	for _, s := range []string{most, most + " \n", most + "#b"} {
		if l, pos, e := lex.Lex(s); len(l) != api.MaxNodes || pos != 0 || e != api.OK {
			t.Errorf("%d tokens: %d, %d, %d", api.MaxNodes, len(l), pos, e)
		}
	}
	if l, pos, e := lex.Lex(strings.Repeat("(", api.MaxNodes)); len(l) != api.MaxNodes || pos != 0 || e != api.OK {
		t.Errorf("%d tokens side by side: %d, %d, %d", api.MaxNodes, len(l), pos, e)
	}
	for _, x := range []struct {
		more string
		e    api.Errno
	}{
		{"b", api.ErrLexMany}, {"b {", api.ErrLexMany}, {"1 01", api.ErrLexMany}, {`"" "`, api.ErrLexMany}, {most, api.ErrLexMany},
		{"{", api.ErrLexByte}, {"; ", api.ErrLexByte}, {"01", api.ErrLexNumber}, {"~", api.ErrLexNumber}, {`"`, api.ErrLexText}, {quoted(a(201)), api.ErrLexText},
	} {
		for _, skipped := range []string{"", "\n", "# x\n "} {
			l, pos, e := lex.Lex(most + skipped + x.more)
			if l != nil || pos != len(most+skipped) || e != x.e {
				t.Errorf("%d tokens and %.10q: %d, %d, %d", api.MaxNodes, x.more, len(l), pos, e)
			}
		}
	}
}

// The model of lexing: what a token is by its first byte, and what all of it is, as regular expressions of bytes.
var (
	modelSkip   = regexp.MustCompile(`^(?s:[ \n]|#[^\n]*)*`)
	modelWord   = regexp.MustCompile(`^[A-Za-z][A-Za-z0-9_']*`)
	modelNumber = regexp.MustCompile(`^[0-9~][0-9]*`)
	modelText   = regexp.MustCompile(`^"([ !#-\[\]-~]|\\["\\n]|\\x[0-9a-f][0-9a-f])*"`)
	modelOp     = regexp.MustCompile(`^[!$%&*+/:<=>?@^|-]+`)
	modelSign   = regexp.MustCompile(`^([()_]|;;)`)
)

// modelToken is the token at the beginning of s, and its length; or an error.
func modelToken(s string) (api.Token, int, api.Errno) {
	kind := api.TokOp
	w := modelOp.FindString(s)
	if w == "" {
		w = modelSign.FindString(s)
	}
	if w == "" {
		kind = api.TokCon
		w = modelWord.FindString(s)
		if w != "" && strings.ToLower(w[:1]) == w[:1] {
			kind = api.TokName
		}
	}
	if slices.Contains(keys, w) {
		kind = api.TokKey
	}
	switch {
	case w != "":
		return api.Token{Kind: kind, Text: w}, len(w), api.OK
	case s[0] == '"':
		w = modelText.FindString(s)
		if w == "" {
			return api.Token{}, 0, api.ErrLexText
		}
		body, err := strconv.Unquote(w) // the escapes of a literal have the same meaning in Go
		if err != nil || len(body) > api.MaxText {
			return api.Token{}, 0, api.ErrLexText
		}
		return text(body), len(w), api.OK
	case modelNumber.MatchString(s):
		w = modelNumber.FindString(s)
		n, ok := new(big.Int).SetString(strings.Replace(w, "~", "-", 1), 10)
		if !ok || strings.Replace(n.String(), "-", "~", 1) != w || n.BitLen() > 62 {
			return api.Token{}, 0, api.ErrLexNumber
		}
		return num(n.Int64()), len(w), api.OK
	}
	return api.Token{}, 0, api.ErrLexByte
}

func modelLex(s string) ([]api.Token, int, api.Errno) {
	var l []api.Token
	for at := 0; ; {
		at += len(modelSkip.FindString(s[at:]))
		if at == len(s) {
			return l, 0, api.OK
		}
		t, size, e := modelToken(s[at:])
		if e != api.OK {
			return nil, at, e
		}
		t.At = at
		l = append(l, t)
		at += size
	}
}

// compare compares Lex of s with the model, and with Lex of the Show of the tokens.
func compare(t *testing.T, s string) {
	t.Helper()
	l, pos, e := lex.Lex(s)
	if want, wantPos, wantE := modelLex(s); !slices.Equal(l, want) || pos != wantPos || e != wantE {
		t.Fatalf("Lex(%q) = %+v, %d, %d; not %+v, %d, %d", s, l, pos, e, want, wantPos, wantE)
	}
	if e == api.OK {
		roundTrip(t, l)
	}
}

// roundTrip checks that the Show of l has the tokens of l, and that it is made of their spellings.
func roundTrip(t *testing.T, l []api.Token) {
	t.Helper()
	var words []string
	for _, x := range l {
		words = append(words, lex.Word(x))
	}
	s, e := lex.Show(l)
	if s != strings.Join(words, " ") || e != api.OK {
		t.Fatalf("Show(%+v) = %q, %d", l, s, e)
	}
	if back, pos, e := lex.Lex(s); !lex.Same(back, l) || pos != 0 || e != api.OK {
		t.Fatalf("Lex(Show(%+v)) = %+v, %d, %d", l, back, pos, e)
	}
}

// TestLexShortTexts compares all texts of up to four of these pieces with the model.
func TestLexShortTexts(t *testing.T) {
	pieces := strings.Split(" |\n|#|a|B|in|0|7|~|_|'|-|>|=|(|;|\"|\\|x|n|\t|\x7f|\xc3|\xa9", "|")
	pieces = append(pieces, "|")
	var try func(s string, left int)
	try = func(s string, left int) {
		compare(t, s)
		if left > 0 {
			for _, p := range pieces {
				try(s+p, left-1)
			}
		}
	}
	try("", 4)
}

// TestLexBytes compares each byte, in all kinds of surroundings, with the model.
func TestLexBytes(t *testing.T) {
	for b := range 256 {
		c := string([]byte{byte(b)})
		for _, s := range []string{c, "a" + c, c + "a", "A" + c + "1", "1" + c + "2", "+" + c + "+", quoted(c), quoted(`\` + c), quoted(`\x0` + c), quoted(`\x` + c + "0"), "#" + c + "a", ";" + c, "~" + c, " " + c + " "} {
			compare(t, s)
		}
	}
}

func TestShow(t *testing.T) {
	for _, l := range [][]api.Token{nil, {}} {
		if s, e := lex.Show(l); s != "" || e != api.OK {
			t.Errorf("Show of nothing is %q, %d", s, e)
		}
	}
	l := []api.Token{key("let"), name("x"), key("="), num(-1), oper("+"), text("a b"), key(";;")}
	if s, e := lex.Show(l); s != `let x = ~1 + "a b" ;;` || e != api.OK {
		t.Errorf("Show = %q, %d", s, e)
	}
	for _, x := range invalid {
		for _, l := range [][]api.Token{{x}, {x, name("a")}, {name("a"), x}, {x, x}} {
			if s, e := lex.Show(l); s != "" || e != api.ErrLexToken {
				t.Errorf("Show(%+v) = %q, %d", l, s, e)
			}
		}
	}
	if s, e := lex.Show(many(5000)); s != strings.TrimSuffix(strings.Repeat("a ", 5000), " ") || e != api.OK {
		t.Errorf("Show of 5000 tokens: %d bytes, %d", len(s), e)
	}
}

// TestShowThenLex takes all pairs of valid tokens, and the greatest number of them, there and back.
func TestShowThenLex(t *testing.T) {
	all := slices.Clone(valid)
	for _, s := range keys {
		all = append(all, valid[0])
		all[len(all)-1].t = key(s)
	}
	for _, x := range all {
		for _, y := range all {
			roundTrip(t, []api.Token{x.t, y.t})
		}
	}
	for b := range 256 {
		for c := range 256 {
			roundTrip(t, []api.Token{text(string([]byte{byte(b), byte(c)}))})
		}
	}
	roundTrip(t, many(api.MaxNodes))
}

// TestLexGreatTexts takes texts that would need too much time or too deep a stack if that grew faster than the text.
func TestLexGreatTexts(t *testing.T) {
	const n = 1 << 20
	for _, x := range []struct {
		s    string
		size int
		pos  int
		e    api.Errno
	}{
		{strings.Repeat(" ", n), 0, 0, api.OK},
		{strings.Repeat("#\n", n), 0, 0, api.OK},
		{strings.Repeat("#", n), 0, 0, api.OK},
		{a(n), 1, 0, api.OK},
		{strings.Repeat("+", n), 1, 0, api.OK},
		{strings.Repeat("1", n), 0, 0, api.ErrLexNumber},
		{`"` + a(n), 0, 0, api.ErrLexText},
		{`"` + strings.Repeat(`\"`, n), 0, 0, api.ErrLexText},
		{strings.Repeat("(", n), 0, api.MaxNodes, api.ErrLexMany},
	} {
		if l, pos, e := lex.Lex(x.s); len(l) != x.size || pos != x.pos || e != x.e {
			t.Errorf("Lex(%.10q and so on) = %d tokens, %d, %d", x.s, len(l), pos, e)
		}
	}
}

func TestArgumentsStay(t *testing.T) {
	l := []api.Token{name("a"), num(1), text("b"), name("beyond")}
	kept := slices.Clone(l)
	if _, e := lex.Show(l[:3]); e != api.OK || !slices.Equal(l, kept) {
		t.Errorf("Show has made %+v of its argument", l)
	}
	if !lex.Same(l[:2], l[:2:2]) || !slices.Equal(l, kept) {
		t.Errorf("Same has made %+v of its argument", l)
	}
}

func TestResultsAreNew(t *testing.T) {
	first, _, _ := lex.Lex("a b c")
	clear(first[:cap(first)])
	if second, _, _ := lex.Lex("a b c"); !lex.Same(second, []api.Token{name("a"), name("b"), name("c")}) {
		t.Errorf("a later result is %+v", second)
	}
}
