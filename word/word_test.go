package word_test

import (
	"math"
	"math/big"
	"math/rand"
	"slices"
	"strconv"
	"strings"
	"testing"

	"triglyph/api"
	"triglyph/word"
)

// edges are integers around every bound of the chapter: 0, the integers of the language, those that Wrap to 0, and int64.
var edges = []int64{
	0, 1, 2, 3, 7, 9, 10, 11, 99, 100, 1<<31 - 1, 1 << 31, 1 << 32, 3037000499, 1 << 61, 1<<61 + 1,
	api.MaxInt - 1, api.MaxInt, api.MaxInt + 1, api.MaxInt + 2, math.MaxInt64 - 1, math.MaxInt64,
	-1, -2, -3, -7, -9, -10, -11, -99, -100, -1<<31 + 1, -1 << 31, -1 << 32, -3037000500, -1 << 61, -1<<61 - 1,
	api.MinInt + 1, api.MinInt, api.MinInt - 1, api.MinInt - 2, math.MinInt64 + 1, math.MinInt64,
}

// samples are the edges and integers of all magnitudes, always the same ones.
func samples() []int64 {
	l := slices.Clone(edges)
	r := rand.New(rand.NewSource(1))
	for shift := range 64 {
		l = append(l, int64(r.Uint64())>>shift, int64(r.Uint64()>>shift))
	}
	return l
}

// wrapped is the Wrap of an integer of any size, by its definition.
func wrapped(n *big.Int) int64 {
	modulus := new(big.Int).Lsh(big.NewInt(1), 63)
	rest := new(big.Int).Mod(n, modulus)
	if rest.Cmp(big.NewInt(api.MaxInt)) > 0 {
		rest.Sub(rest, modulus)
	}
	return rest.Int64()
}

func TestWrap(t *testing.T) {
	for n, want := range map[int64]int64{
		0: 0, 1: 1, -1: -1,
		api.MaxInt: api.MaxInt, api.MaxInt + 1: api.MinInt, api.MaxInt + 2: api.MinInt + 1,
		api.MinInt: api.MinInt, api.MinInt - 1: api.MaxInt, api.MinInt - 2: api.MaxInt - 1,
		math.MaxInt64: -1, math.MinInt64: 0, math.MinInt64 + 1: 1,
	} {
		if got := word.Wrap(n); got != want {
			t.Errorf("Wrap(%d) = %d, want %d", n, got, want)
		}
	}
	for _, n := range samples() {
		if got, want := word.Wrap(n), wrapped(big.NewInt(n)); got != want {
			t.Errorf("Wrap(%d) = %d, want %d", n, got, want)
		}
	}
}

func TestAddSubMulExamples(t *testing.T) {
	for _, x := range []struct {
		name      string
		got, want int64
	}{
		{"the greatest integer plus 1", word.Add(api.MaxInt, 1), api.MinInt},
		{"1 and 2 added", word.Add(1, 2), 3},
		{"the least integer less 1", word.Sub(api.MinInt, 1), api.MaxInt},
		{"0 less the least integer", word.Sub(0, api.MinInt), api.MinInt},
		{"1 less 2", word.Sub(1, 2), -1},
		{"2^61 twice", word.Mul(1<<61, 2), api.MinInt},
		{"2^62 twice", word.Mul(1<<62, 2), 0},
		{"the least integer times -1", word.Mul(api.MinInt, -1), api.MinInt},
		{"the greatest integer squared", word.Mul(api.MaxInt, api.MaxInt), 1},
		{"-3 times 5", word.Mul(-3, 5), -15},
	} {
		if x.got != x.want {
			t.Errorf("%s: %d, want %d", x.name, x.got, x.want)
		}
	}
}

func TestAddSubMulOfAllPairs(t *testing.T) {
	l := samples()
	for _, a := range l {
		for _, b := range l {
			x, y, z := big.NewInt(a), big.NewInt(b), new(big.Int)
			if got, want := word.Add(a, b), wrapped(z.Add(x, y)); got != want {
				t.Errorf("Add(%d, %d) = %d, want %d", a, b, got, want)
			}
			if got, want := word.Sub(a, b), wrapped(z.Sub(x, y)); got != want {
				t.Errorf("Sub(%d, %d) = %d, want %d", a, b, got, want)
			}
			if got, want := word.Mul(a, b), wrapped(z.Mul(x, y)); got != want {
				t.Errorf("Mul(%d, %d) = %d, want %d", a, b, got, want)
			}
		}
	}
}

func TestSum(t *testing.T) {
	for _, x := range []struct {
		l    []int64
		want int64
	}{
		{nil, 0},
		{[]int64{}, 0},
		{[]int64{5}, 5},
		{[]int64{1 << 62}, api.MinInt},
		{[]int64{math.MinInt64}, 0},
		{[]int64{1, -2, 4}, 3},
		{[]int64{api.MaxInt, 1}, api.MinInt},
		{[]int64{math.MaxInt64, math.MaxInt64, math.MaxInt64}, -3},
		{[]int64{math.MinInt64, math.MinInt64, -7}, -7},
	} {
		if got := word.Sum(x.l...); got != x.want {
			t.Errorf("Sum(%v...) = %d, want %d", x.l, got, x.want)
		}
	}
	if got := word.Sum(); got != 0 {
		t.Errorf("Sum() = %d", got)
	}
	total, l := new(big.Int), samples()
	for at, n := range l {
		total.Add(total, big.NewInt(n))
		if got, want := word.Sum(l[:at+1]...), wrapped(total); got != want {
			t.Errorf("Sum of the first %d samples = %d, want %d", at+1, got, want)
		}
	}
}

// The document's rules: arguments are not modified, nor is the unused capacity of slices.
func TestSumKeepsItsArguments(t *testing.T) {
	l := []int64{math.MaxInt64, 2, math.MinInt64, 9, 9, 9}
	before := slices.Clone(l)
	word.Sum(l[:3]...)
	if !slices.Equal(l, before) {
		t.Errorf("Sum changed its arguments to %v", l)
	}
}

func TestDivModExamples(t *testing.T) {
	for _, x := range []struct {
		a, b, quotient, rest int64
		e                    api.Errno
	}{
		{7, 2, 3, 1, api.OK},
		{-7, 2, -3, -1, api.OK},
		{7, -2, -3, 1, api.OK},
		{-7, -2, 3, -1, api.OK},
		{6, 3, 2, 0, api.OK},
		{-6, 3, -2, 0, api.OK},
		{1, 2, 0, 1, api.OK},
		{-1, 2, 0, -1, api.OK},
		{0, 5, 0, 0, api.OK},
		{api.MinInt, -1, api.MinInt, 0, api.OK},
		{api.MinInt, 1, api.MinInt, 0, api.OK},
		{api.MinInt, api.MaxInt, -1, -1, api.OK},
		{api.MaxInt, api.MinInt, 0, api.MaxInt, api.OK},
		{1 << 62, 1, api.MinInt, 0, api.OK},
		{7, math.MaxInt64, -7, 0, api.OK},
		{math.MinInt64, 3, 0, 0, api.OK},
		{math.MinInt64, -1, 0, 0, api.OK},
		{1, 0, 0, 0, api.ErrWordZero},
		{0, 0, 0, 0, api.ErrWordZero},
		{api.MinInt, 0, 0, 0, api.ErrWordZero},
		{5, math.MinInt64, 0, 0, api.ErrWordZero},
	} {
		if got, e := word.Div(x.a, x.b); got != x.quotient || e != x.e {
			t.Errorf("Div(%d, %d) = %d, %d, want %d, %d", x.a, x.b, got, e, x.quotient, x.e)
		}
		if got, e := word.Mod(x.a, x.b); got != x.rest || e != x.e {
			t.Errorf("Mod(%d, %d) = %d, %d, want %d, %d", x.a, x.b, got, e, x.rest, x.e)
		}
	}
}

func TestDivModOfAllPairs(t *testing.T) {
	l := samples()
	for _, a := range l {
		for _, b := range l {
			quotient, e := word.Div(a, b)
			rest, f := word.Mod(a, b)
			x, y := big.NewInt(wrapped(big.NewInt(a))), big.NewInt(wrapped(big.NewInt(b)))
			if y.Sign() == 0 {
				if quotient != 0 || rest != 0 || e != api.ErrWordZero || f != api.ErrWordZero {
					t.Errorf("Div and Mod of %d, %d: %d, %d, %d, %d", a, b, quotient, e, rest, f)
				}
				continue
			}
			q, r := new(big.Int).QuoRem(x, y, new(big.Int))
			if quotient != wrapped(q) || e != api.OK {
				t.Errorf("Div(%d, %d) = %d, %d, want %d", a, b, quotient, e, wrapped(q))
			}
			if rest != r.Int64() || f != api.OK {
				t.Errorf("Mod(%d, %d) = %d, %d, want %d", a, b, rest, f, r)
			}
		}
	}
}

func TestShow(t *testing.T) {
	for n, want := range map[int64]string{
		0: "0", 5: "5", -5: "~5", 10: "10", -10: "~10", 100200: "100200",
		api.MaxInt: "4611686018427387903", api.MinInt: "~4611686018427387904",
		1 << 62: "~4611686018427387904", math.MinInt64: "0", math.MaxInt64: "~1",
	} {
		if got := word.Show(n); got != want {
			t.Errorf("Show(%d) = %q, want %q", n, got, want)
		}
	}
}

func TestShowAndReadOfAllSamples(t *testing.T) {
	for _, n := range samples() {
		whole := wrapped(big.NewInt(n))
		want := strings.Replace(strconv.FormatInt(whole, 10), "-", "~", 1)
		if got := word.Show(n); got != want {
			t.Errorf("Show(%d) = %q, want %q", n, got, want)
		}
		if got, e := word.Read(want); got != whole || e != api.OK {
			t.Errorf("Read(%q) = %d, %d, want %d", want, got, e, whole)
		}
	}
}

func TestReadOfWhatIsNoInteger(t *testing.T) {
	for name, l := range map[string][]string{
		"no digits":     {"", "~", "~~", " ", "a", "\x00"},
		"leading zeros": {"00", "01", "007", "~01", "~007", "~0", "~00", "0~"},
		"other signs":   {"-1", "+1", "--1", "~~1", "1~", "1~2", "~-1", "~+1", "\u22121", "\u02dc1"},
		"other bytes":   {" 1", "1 ", "~ 1", "1a", "a1", "1.0", "1e3", "0x1", "1_000", "1\n", "1\x00", "\xff", "1\xff", "\xff1", "~\x80", "/", ":", "1/", "1:"},
		"other digits":  {"\u0661", "1\u0662", "\uff11", "~\uff11", "\U0001d7cf"},
		"too great": {
			"4611686018427387904", "4611686018427387910", "5000000000000000000", "9223372036854775807", "9223372036854775808",
			"9223372036854775809", "18446744073709551615", "18446744073709551616", "18446744073709551617", "27670116110564327424",
			"36893488147419103232", "99999999999999999999999", "340282366920938463463374607431768211457", strings.Repeat("1", 100000),
		},
		"too small": {
			"~4611686018427387905", "~4611686018427387910", "~5000000000000000000", "~9223372036854775807", "~9223372036854775808",
			"~9223372036854775809", "~18446744073709551615", "~18446744073709551616", "~18446744073709551617", "~99999999999999999999999",
			"~" + strings.Repeat("9", 100000),
		},
		"zeros without end": {strings.Repeat("0", 100000), "~" + strings.Repeat("0", 100000)},
	} {
		for _, s := range l {
			if n, e := word.Read(s); n != 0 || e != api.ErrWordText {
				t.Errorf("%s: Read(%.40q) = %d, %d", name, s, n, e)
			}
		}
	}
}

// readable are the bytes that short texts are made of: all that mean something to Read, and some that do not.
const readable = "~0129/: -\xff"

func TestReadOfAllShortTexts(t *testing.T) {
	for _, s := range shortTexts(4) {
		n, e := word.Read(s)
		want, err := strconv.ParseInt(strings.Replace(s, "~", "-", 1), 10, 64)
		right := err == nil && strings.Replace(strconv.FormatInt(want, 10), "-", "~", 1) == s
		if right && (n != want || e != api.OK) {
			t.Errorf("Read(%q) = %d, %d, want %d", s, n, e, want)
		}
		if !right && (n != 0 || e != api.ErrWordText) {
			t.Errorf("Read(%q) = %d, %d, want an error", s, n, e)
		}
	}
}

// shortTexts are all texts of up to so many readable bytes.
func shortTexts(most int) []string {
	all, last := []string{""}, []string{""}
	for range most {
		var next []string
		for _, s := range last {
			for at := range len(readable) {
				next = append(next, s+readable[at:at+1])
			}
		}
		all, last = append(all, next...), next
	}
	return all
}
