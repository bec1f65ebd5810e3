package tick

import (
	"math"
	"math/big"
	"slices"
	"strconv"
	"strings"
	"testing"

	"chicane/api"
)

const top = api.MaxTick

// numbers has the edges on both sides of what is right, and some between them, rising.
func numbers() []int {
	return []int{
		math.MinInt, math.MinInt + 1, -top - 1, -top, -7, -1,
		0, 1, 2, 3, 7, 10, 50, 99, 100, 101, 4095, 4096, 65535, 65536,
		1<<20 - 1, 1 << 20, 1<<20 + 1, 1<<32 - 1, 1 << 32, 1<<39 - 1, 1 << 39, top - 1, top,
		top + 1, 2 * top, 1 << 62, math.MaxInt - 1, math.MaxInt,
	}
}

// taken is the number that n is taken as, without a bound on what is reckoned of it.
func taken(n int) *big.Int {
	switch {
	case n < 0:
		return big.NewInt(0)
	case n > top:
		return big.NewInt(top)
	}
	return big.NewInt(int64(n))
}

// ended is n, or the end that it lies beyond.
func ended(n *big.Int) int {
	if n.Sign() < 0 {
		return 0
	}
	if n.Cmp(big.NewInt(top)) > 0 {
		return top
	}
	return int(n.Int64())
}

// shared is a times b through c, by the words of P1.1.
func shared(a, b, c int) int {
	product := new(big.Int).Mul(taken(a), taken(b))
	if taken(c).Sign() != 0 {
		return ended(product.Quo(product, taken(c)))
	}
	if product.Sign() == 0 {
		return 0
	}
	return top
}

// P1.1

func TestRight(t *testing.T) {
	for _, n := range numbers() {
		if got, want := Right(n), n >= 0 && n <= 1<<40; got != want {
			t.Errorf("P1.1: Right(%d) is %v", n, got)
		}
	}
}

func TestExamples(t *testing.T) {
	cases := []struct {
		call      string
		got, want int
	}{
		{"Sub(3, 5)", Sub(3, 5), 0},
		{"Add(MaxTick, 1)", Add(top, 1), top},
		{"Up(7, 2)", Up(7, 2), 4},
		{"Share(7, 50, 100)", Share(7, 50, 100), 3},
		{"Add(3, 4)", Add(3, 4), 7},
		{"Add(MaxTick - 1, 1)", Add(top-1, 1), top},
		{"Add(MaxInt, MaxInt)", Add(math.MaxInt, math.MaxInt), top},
		{"Add(MinInt, MinInt)", Add(math.MinInt, math.MinInt), 0},
		{"Add(-5, 3)", Add(-5, 3), 3},
		{"Sub(9, 4)", Sub(9, 4), 5},
		{"Sub(5, 5)", Sub(5, 5), 0},
		{"Sub(3, -5)", Sub(3, -5), 3},
		{"Sub(MaxInt, 1)", Sub(math.MaxInt, 1), top - 1},
		{"Sub(0, MinInt)", Sub(0, math.MinInt), 0},
		{"Mul(6, 7)", Mul(6, 7), 42},
		{"Mul(2^20, 2^20)", Mul(1<<20, 1<<20), top},
		{"Mul(2^20, 2^20 - 1)", Mul(1<<20, 1<<20-1), top - 1<<20},
		{"Mul(2^32, 2^32)", Mul(1<<32, 1<<32), top},
		{"Mul(-3, -5)", Mul(-3, -5), 0},
		{"Up(8, 2)", Up(8, 2), 4},
		{"Up(0, 3)", Up(0, 3), 0},
		{"Up(0, 0)", Up(0, 0), 0},
		{"Up(-1, 0)", Up(-1, 0), 0},
		{"Up(1, 0)", Up(1, 0), top},
		{"Up(1, -1)", Up(1, -1), top},
		{"Up(MaxInt, 1)", Up(math.MaxInt, 1), top},
		{"Up(1, MaxInt)", Up(1, math.MaxInt), 1},
		{"Up(MaxTick, MaxTick)", Up(top, top), 1},
		{"Share(MaxTick, MaxTick, MaxTick)", Share(top, top, top), top},
		{"Share(MaxTick, MaxTick - 1, MaxTick)", Share(top, top-1, top), top - 1},
		{"Share(MaxTick, MaxTick, 1)", Share(top, top, 1), top},
		{"Share(MaxTick, 3, 4)", Share(top, 3, 4), top / 4 * 3},
		{"Share(1, 1, 2)", Share(1, 1, 2), 0},
		{"Share(1, 1, 0)", Share(1, 1, 0), top},
		{"Share(0, 7, 0)", Share(0, 7, 0), 0},
		{"Share(7, 0, 0)", Share(7, 0, 0), 0},
		{"Share(7, -1, -1)", Share(7, -1, -1), 0},
	}
	for _, c := range cases {
		if c.got != c.want {
			t.Errorf("P1.1: %s is %d, not %d", c.call, c.got, c.want)
		}
	}
}

func TestSumsByWideNumbers(t *testing.T) {
	for _, a := range numbers() {
		for _, b := range numbers() {
			if got, want := Add(a, b), ended(new(big.Int).Add(taken(a), taken(b))); got != want {
				t.Errorf("P1.1: Add(%d, %d) is %d, not %d", a, b, got, want)
			}
			if got, want := Sub(a, b), ended(new(big.Int).Sub(taken(a), taken(b))); got != want {
				t.Errorf("P1.1: Sub(%d, %d) is %d, not %d", a, b, got, want)
			}
			if got, want := Mul(a, b), ended(new(big.Int).Mul(taken(a), taken(b))); got != want {
				t.Errorf("P1.1: Mul(%d, %d) is %d, not %d", a, b, got, want)
			}
		}
	}
}

func TestShareByWideNumbers(t *testing.T) {
	for _, a := range numbers() {
		for _, b := range numbers() {
			for _, c := range numbers() {
				if got, want := Share(a, b, c), shared(a, b, c); got != want {
					t.Errorf("P1.1: Share(%d, %d, %d) is %d, not %d", a, b, c, got, want)
				}
			}
		}
	}
}

func TestUpIsTheLeast(t *testing.T) {
	reaches := func(n, a, b int) bool {
		return new(big.Int).Mul(big.NewInt(int64(n)), taken(b)).Cmp(taken(a)) >= 0
	}
	for _, a := range numbers() {
		for _, b := range numbers() {
			if b <= 0 {
				continue
			}
			n := Up(a, b)
			if !Right(n) || !reaches(n, a, b) || n > 0 && reaches(n-1, a, b) {
				t.Errorf("P1.1: Up(%d, %d) is %d", a, b, n)
			}
		}
	}
}

func TestUpOfNothing(t *testing.T) {
	for _, a := range numbers() {
		for _, b := range []int{0, -1, math.MinInt} {
			want := top
			if a <= 0 {
				want = 0
			}
			if got := Up(a, b); got != want {
				t.Errorf("P1.1: Up(%d, %d) is %d, not %d", a, b, got, want)
			}
		}
	}
}

// P1.2

func TestText(t *testing.T) {
	for _, n := range numbers() {
		if got, want := Text(n), taken(n).String(); got != want {
			t.Errorf("P1.2: Text(%d) is %q, not %q", n, got, want)
		}
	}
}

func TestParse(t *testing.T) {
	for s, want := range map[string]int{
		"0": 0, "1": 1, "9": 9, "10": 10, "100": 100, "1234567890": 1234567890,
		"1099511627775": top - 1, "1099511627776": top,
	} {
		if n, e := Parse(s); n != want || e != api.OK {
			t.Errorf("P1.2: Parse(%q) is %d, %d", s, n, e)
		}
	}
}

func TestParseRefuses(t *testing.T) {
	wrong := []string{
		"", " ", "00", "007", "01", "-0", "-1", "+0", "+1", " 1", "1 ", "1\n", "1 2", "1_000", "1,0", "1.0",
		"0x1", "1e3", "a", "x1", "1x", "1x1", "0x", "/", ":", "1/", "1:", "\x00", "1\x00", "\xff", "1\xff", "1\xb9",
		"\u0661", "1\u0661", "\uff11", "\ufffd",
		"1099511627777", "1099511627780", "9999999999999", "10995116277760", "01099511627776",
		"9223372036854775807", "9223372036854775808", "18446744073709551616", "18446744073709551617",
		"340282366920938463463374607431768211457", strings.Repeat("9", 1000), strings.Repeat("0", 1000),
		"1" + strings.Repeat("0", 64), strings.Repeat("1", 100000),
	}
	for _, s := range wrong {
		if n, e := Parse(s); n != 0 || e != api.ErrTickForm {
			t.Errorf("P1.2: Parse(%.60q) is %d, %d", s, n, e)
		}
	}
}

func TestParseOfEachShortText(t *testing.T) {
	byText := map[string]int{}
	for n := range 100 {
		byText[strconv.Itoa(n)] = n
	}
	check := func(text ...byte) {
		s := string(text)
		want, there := byText[s]
		wantErr := api.OK
		if !there {
			wantErr = api.ErrTickForm
		}
		if n, e := Parse(s); n != want || e != wantErr {
			t.Errorf("P1.2: Parse(%q) is %d, %d", s, n, e)
		}
	}
	for a := range 256 {
		check(byte(a))
		for b := range 256 {
			check(byte(a), byte(b))
		}
	}
}

func TestLeast(t *testing.T) {
	cases := []struct {
		of   []int
		want int
	}{
		{[]int{5}, 5},
		{[]int{0}, 0},
		{[]int{9, 5, 7}, 5},
		{[]int{5, 7, 9}, 5},
		{[]int{9, 7, 5}, 5},
		{[]int{4, 4}, 4},
		{[]int{5, -3, 9}, 0},
		{[]int{math.MinInt}, 0},
		{[]int{top}, top},
		{[]int{top + 1}, top},
		{[]int{math.MaxInt, top + 5}, top},
		{[]int{math.MaxInt, top - 1}, top - 1},
	}
	for _, c := range cases {
		given := slices.Clone(c.of)
		if n, there := Least(given...); n != c.want || !there {
			t.Errorf("P1.2: Least(%v) is %d, %v", c.of, n, there)
		}
		if !slices.Equal(given, c.of) {
			t.Errorf("R5: Least has changed %v to %v", c.of, given)
		}
	}
}

func TestLeastOfNone(t *testing.T) {
	for _, none := range [][]int{nil, {}} {
		if n, there := Least(none...); n != 0 || there {
			t.Errorf("P1.2: Least of none is %d, %v", n, there)
		}
	}
}

// P1.3

func TestTextIsParsed(t *testing.T) {
	check := func(n int) {
		if m, e := Parse(Text(n)); m != n || e != api.OK {
			t.Errorf("P1.3: Parse(Text(%d)) is %d, %d", n, m, e)
		}
	}
	for _, n := range numbers() {
		if Right(n) {
			check(n)
		}
	}
	for n := range 20000 {
		check(n)
		check(top - n)
	}
}

func TestNoOrder(t *testing.T) {
	for _, a := range numbers() {
		for _, b := range numbers() {
			if Add(a, b) != Add(b, a) || Mul(a, b) != Mul(b, a) {
				t.Errorf("P1.3: %d and %d are not added, or multiplied, as %d and %d", a, b, b, a)
			}
			for _, c := range numbers() {
				if Add(Add(a, b), c) != Add(a, Add(b, c)) || Mul(Mul(a, b), c) != Mul(a, Mul(b, c)) {
					t.Errorf("P1.3: %d, %d and %d hang on an order", a, b, c)
				}
			}
		}
	}
}

func TestMoreNeverBecomesLess(t *testing.T) {
	rising := numbers()
	for i, less := range rising[:len(rising)-1] {
		more := rising[i+1]
		for _, b := range rising {
			if Add(less, b) > Add(more, b) || Mul(less, b) > Mul(more, b) {
				t.Errorf("P1.3: %d and %d is more than %d and %d", less, b, more, b)
			}
			for _, c := range rising {
				if Share(less, b, c) > Share(more, b, c) || Share(b, less, c) > Share(b, more, c) {
					t.Errorf("P1.3: of %d and %d through %d more is shared than of %d", less, b, c, more)
				}
			}
		}
	}
}

func TestUpOfMul(t *testing.T) {
	for _, a := range numbers() {
		for _, b := range numbers() {
			if !Right(a) || !Right(b) || b == 0 || a > top/b {
				continue
			}
			if got := Up(Mul(a, b), b); got != a {
				t.Errorf("P1.3: Up(Mul(%d, %d), %d) is %d", a, b, b, got)
			}
		}
	}
}
