package dice

import (
	"math"
	"math/big"
	"slices"
	"testing"

	"chicane/api"
)

const top = api.MaxTick

// states has the edges of 64 bits, single bits, and some between them.
func states() []uint64 {
	l := []uint64{0, 2, 3, 5, 100, 1<<32 - 1, 1 << 32, math.MaxInt64, math.MaxUint64, math.MaxUint64 - 1,
		Step, math.MaxUint64 - Step, math.MaxUint64 - Step + 1, 0x0123456789abcdef, 0xfedcba9876543210}
	for i := range 64 {
		l = append(l, 1<<i)
	}
	return l
}

// wrapped is n's last 64 bits.
func wrapped(n *big.Int) uint64 {
	return new(big.Int).And(n, new(big.Int).SetUint64(math.MaxUint64)).Uint64()
}

// mixed is Mix by the words of P2.1, with numbers that have room for all.
func mixed(n uint64) uint64 {
	times := func(a, b uint64) uint64 {
		return wrapped(new(big.Int).Mul(new(big.Int).SetUint64(a), new(big.Int).SetUint64(b)))
	}
	half := func(n uint64, times int) uint64 {
		for range times {
			n /= 2
		}
		return n
	}
	x := times(n^half(n, 30), 0xbf58476d1ce4e5b9)
	y := times(x^half(x, 27), 0x94d049bb133111eb)
	return y ^ half(y, 31)
}

// plus is n and Step, by numbers that have room for all.
func plus(n uint64) uint64 {
	return wrapped(new(big.Int).Add(new(big.Int).SetUint64(n), new(big.Int).SetUint64(0x9e3779b97f4a7c15)))
}

// unmixed is the number that is mixed to n.
func unmixed(n uint64) uint64 {
	n = unshifted(n, 31) * inverse(0x94d049bb133111eb)
	n = unshifted(n, 27) * inverse(0xbf58476d1ce4e5b9)
	return unshifted(n, 30)
}

// unshifted is the x of which n is x xor (x shifted right by so many).
func unshifted(n uint64, by int) uint64 {
	x := n
	for range 64 / by {
		x = n ^ x>>by
	}
	return x
}

// inverse is what gives 1, times an odd n.
func inverse(n uint64) uint64 {
	x := n
	for range 6 { // the bits that are right are doubled by each
		x *= 2 - n*x
	}
	return x
}

// stateOf is the state whose Next tells the value.
func stateOf(value uint64) uint64 { return unmixed(value) - Step }

// firstValue is the least value of which k is told below n: k times 2^64 through n, rounded up.
func firstValue(k, n int) uint64 {
	a := new(big.Int).Lsh(big.NewInt(int64(k)), 64)
	a.Add(a, big.NewInt(int64(n-1)))
	return a.Quo(a, big.NewInt(int64(n))).Uint64()
}

// lastValue is the greatest value of which k is told below n.
func lastValue(k, n int) uint64 {
	if k == n-1 {
		return math.MaxUint64
	}
	return firstValue(k+1, n) - 1
}

// P2.1

func TestMix(t *testing.T) {
	for _, n := range states() {
		if got, want := Mix(n), mixed(n); got != want {
			t.Errorf("P2.1: Mix(%x) is %x, not %x", n, got, want)
		}
	}
	for n, want := range map[uint64]uint64{0: 0, Step: 0xe220a8397b1dcdaf, 0x3c6ef372fe94f82a: 0x6e789e6aa1b965f4} {
		if got := Mix(n); got != want {
			t.Errorf("P2.1: Mix(%x) is %x, not %x", n, got, want)
		}
	}
}

func TestNext(t *testing.T) {
	for _, s := range states() {
		value, next := Next(s)
		if value != mixed(plus(s)) || next != plus(s) {
			t.Errorf("P2.1: Next(%x) is %x, %x", s, value, next)
		}
	}
	if value, next := Next(0); value != 0xe220a8397b1dcdaf || next != 0x9e3779b97f4a7c15 {
		t.Errorf("P2.1: Next(0) is %x, %x", value, next)
	}
	if value, next := Next(math.MaxUint64 - Step + 1); value != 0 || next != 0 {
		t.Errorf("P2.1: Next of 2^64 - Step is %x, %x", value, next)
	}
}

func TestMany(t *testing.T) {
	for _, c := range []struct{ n, want int }{
		{math.MinInt, 0}, {-1, 0}, {0, 0}, {1, 1}, {2, 2}, {7, 7}, {999, 999}, {1000, 1000}, {1001, 1000}, {5000, 1000}, {math.MaxInt, 1000},
	} {
		for _, s := range []uint64{0, 7, math.MaxUint64} {
			values, behind := Many(s, c.n)
			var want []uint64
			state := s
			for len(want) < c.want {
				want = append(want, mixed(plus(state)))
				state = plus(state)
			}
			if !slices.Equal(values, want) || behind != state {
				t.Errorf("P2.1: Many(%x, %d): %d values, and %x; not %d, and %x", s, c.n, len(values), behind, c.want, state)
			}
		}
	}
}

func TestManyAreTheCallers(t *testing.T) {
	first, _ := Many(3, 5)
	second, _ := Many(3, 5)
	kept := slices.Clone(second)
	clear(first)
	third, _ := Many(3, 5)
	if !slices.Equal(second, kept) || !slices.Equal(third, kept) {
		t.Error("P2.1: what is written into Many's values is told by others")
	}
}

func TestStream(t *testing.T) {
	lists := [][]uint64{nil, {0}, {1}, {2}, {1, 2}, {2, 1}, {1, 1}, {0, 0, 0}, {math.MaxUint64, 5, Step, 7}}
	for _, seed := range states() {
		for _, ids := range lists {
			want := mixed(plus(seed))
			for _, id := range ids {
				want = mixed(want ^ mixed(plus(id)))
			}
			given := slices.Clone(ids)
			if got := Stream(seed, given...); got != want {
				t.Errorf("P2.1: Stream(%x, %x) is %x, not %x", seed, ids, got, want)
			}
			if !slices.Equal(given, ids) {
				t.Errorf("P2.1: Stream(%x, %x) changed its ids: %x", seed, ids, given)
			}
		}
	}
	if got := Stream(0); got != 0xe220a8397b1dcdaf {
		t.Errorf("P2.1: Stream(0) is %x", got)
	}
	if got := Stream(9, 9); got != 0 { // what there is, xor the same
		t.Errorf("P2.1: Stream(9, 9) is %x", got)
	}
	if Stream(0, 1, 2) == Stream(0, 2, 1) {
		t.Error("P2.1: Stream does not hang on the order")
	}
}

// P2.2

// taken is Below by the words of P2.2.
func taken(s uint64, n int) (int, uint64) {
	if n < 1 {
		return 0, s
	}
	product := new(big.Int).SetUint64(mixed(plus(s)))
	product.Mul(product, big.NewInt(int64(n)))
	return int(product.Rsh(product, 64).Int64()), plus(s)
}

func TestBelow(t *testing.T) {
	for _, s := range states() {
		for _, n := range []int{math.MinInt, -100, -1, 0, 1, 2, 3, 10, 16, 100, 1 << 20, 1<<32 + 1, top, 2*top + 1, 1 << 62, math.MaxInt} {
			got, behind := Below(s, n)
			want, state := taken(s, n)
			if got != want || behind != state {
				t.Errorf("P2.2: Below(%x, %d) is %d, %x; not %d, %x", s, n, got, behind, want, state)
			}
		}
	}
	if n, s := Below(0, 16); n != 14 || s != 0x9e3779b97f4a7c15 {
		t.Errorf("P2.2: Below(0, 16) is %d, %x", n, s)
	}
	if n, _ := Below(stateOf(math.MaxUint64), math.MaxInt); n != math.MaxInt-1 {
		t.Errorf("P2.2: Below(.., MaxInt) of the greatest value is %d", n)
	}
	if n, _ := Below(stateOf(0), math.MaxInt); n != 0 {
		t.Errorf("P2.2: Below(.., MaxInt) of the least value is %d", n)
	}
}

func TestRange(t *testing.T) {
	numbers := []int{math.MinInt, -top - 1, -top, -top + 1, -8, -1, 0, 1, 5, 7, 100, top - 1, top, top + 1, math.MaxInt}
	for _, s := range states() {
		for _, low := range numbers {
			for _, high := range numbers {
				want, state := low, s
				if low <= high && low >= -(1<<40) && high <= 1<<40 {
					n, behind := taken(s, high-low+1)
					want, state = low+n, behind
				}
				got, behind := Range(s, low, high)
				if got != want || behind != state {
					t.Errorf("P2.2: Range(%x, %d, %d) is %d, %x; not %d, %x", s, low, high, got, behind, want, state)
				}
			}
		}
	}
}

func TestRangeReachesItsEnds(t *testing.T) {
	least, greatest := stateOf(0), stateOf(math.MaxUint64)
	for _, c := range []struct{ low, high int }{{0, 0}, {5, 5}, {-3, 3}, {-top, top}, {0, top}, {-top, -top}, {top, top}} {
		if n, _ := Range(least, c.low, c.high); n != c.low {
			t.Errorf("P2.2: Range(.., %d, %d) of the least value is %d", c.low, c.high, n)
		}
		if n, _ := Range(greatest, c.low, c.high); n != c.high {
			t.Errorf("P2.2: Range(.., %d, %d) of the greatest value is %d", c.low, c.high, n)
		}
	}
}

func TestPercent(t *testing.T) {
	for _, s := range states() {
		for _, p := range []int{math.MinInt, -1, 0, 1, 50, 88, 89, 99, 100, 101, 200, math.MaxInt} {
			n, state := taken(s, 100)
			if is, behind := Percent(s, p); is != (n < p) || behind != state {
				t.Errorf("P2.2: Percent(%x, %d) is %v, %x; Below is %d, %x", s, p, is, behind, n, state)
			}
		}
	}
}

// P2.3

func TestMixIsOneToOne(t *testing.T) {
	seen := map[uint64]uint64{}
	check := func(n uint64) {
		m := Mix(n)
		if unmixed(m) != n {
			t.Errorf("P2.3: Mix(%x) is %x, and that comes of %x", n, m, unmixed(m))
		}
		if other, is := seen[m]; is && other != n {
			t.Errorf("P2.3: %x and %x are mixed alike", n, other)
		}
		seen[m] = n
	}
	for _, n := range states() {
		check(n)
		check(^n)
	}
	for n := range uint64(20000) {
		check(n)
		check(n * Step)
	}
}

func TestPercentRises(t *testing.T) {
	for k := range 100 {
		for _, value := range []uint64{firstValue(k, 100), lastValue(k, 100)} {
			s := stateOf(value)
			for p := range 102 {
				if is, _ := Percent(s, p); is != (p > k) {
					t.Errorf("P2.3: where Below of 100 is %d, Percent of %d is %v", k, p, is)
				}
			}
		}
	}
}

func TestPercentOfNoneAndAll(t *testing.T) {
	s := uint64(0)
	for range 20000 {
		never, next := Percent(s, 0)
		always, _ := Percent(s, 100)
		if never || !always {
			t.Fatalf("P2.3: at %x Percent of 0 is %v, of 100 %v", s, never, always)
		}
		s = next
	}
}

func TestBelowTellsEach(t *testing.T) {
	for n := 1; n <= 300; n++ {
		for k := range n {
			for _, s := range []uint64{stateOf(firstValue(k, n)), stateOf(lastValue(k, n))} {
				if got, _ := Below(s, n); got != k {
					t.Errorf("P2.3: Below(%x, %d) is %d, not %d", s, n, got, k)
				}
			}
		}
	}
	for _, n := range []int{1<<32 + 1, top, math.MaxInt} {
		for _, k := range []int{0, 1, n / 2, n - 2, n - 1} {
			for _, s := range []uint64{stateOf(firstValue(k, n)), stateOf(lastValue(k, n))} {
				if got, _ := Below(s, n); got != k {
					t.Errorf("P2.3: Below(%x, %d) is %d, not %d", s, n, got, k)
				}
			}
		}
	}
}
