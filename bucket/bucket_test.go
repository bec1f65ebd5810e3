package bucket

import (
	"math"
	"math/big"
	"math/rand"
	"testing"

	"chicane/api"
)

const top = api.MaxTick

// edges are numbers at, and beside, the ends of what is right, and some between them, rising.
func edges() []int {
	return []int{math.MinInt, -top, -1, 0, 1, 2, 3, 10, 1 << 20, 1<<32 + 1, top - 1, top, top + 1, 1 << 62, math.MaxInt}
}

// rightEdges are those of the edges that are right numbers.
func rightEdges() []int { return []int{0, 1, 2, 3, 10, 1 << 20, 1<<32 + 1, top - 1, top} }

// fits tells whether n is a right number, by the words of P1.1.
func fits(n int) bool { return n >= 0 && n <= 1<<40 }

// asTick is the right number that is nearest to n.
func asTick(n int) int {
	if n < 0 {
		return 0
	}
	if n > top {
		return top
	}
	return n
}

// sum is a and b times c, without a bound.
func sum(a, b, c int) *big.Int {
	product := new(big.Int).Mul(big.NewInt(int64(b)), big.NewInt(int64(c)))
	return product.Add(product, big.NewInt(int64(a)))
}

// bounded is n, or most, if that is less.
func bounded(n *big.Int, most int) int {
	if n.Cmp(big.NewInt(int64(most))) > 0 {
		return most
	}
	return int(n.Int64())
}

// rightByWords is Right by the words of the chapter.
func rightByWords(b Bucket) bool {
	return fits(b.Rate) && fits(b.Burst) && fits(b.Level) && fits(b.At) && b.Burst != 0 && !(b.Level > b.Burst)
}

// filledByWords is Fill by the words of P8.2.
func filledByWords(b Bucket, now int) Bucket {
	if now = asTick(now); !rightByWords(b) || now <= b.At {
		return b
	}
	return Bucket{b.Rate, b.Burst, bounded(sum(b.Level, b.Rate, now-b.At), b.Burst), now}
}

// takenByWords is Take by the words of P8.2.
func takenByWords(b Bucket, now, n int) (Bucket, int) {
	if !rightByWords(b) {
		return b, 0
	}
	b = filledByWords(b, now)
	switch {
	case n < 0:
		n = 0
	case n > b.Level:
		n = b.Level
	}
	return Bucket{b.Rate, b.Burst, b.Level - n, b.At}, n
}

// changedByWords is Change by the words of P8.2.
func changedByWords(b Bucket, rate, burst, now int) (Bucket, api.Errno) {
	if !fits(rate) || !fits(burst) || !fits(now) || burst == 0 || !rightByWords(b) {
		return Bucket{}, api.ErrArg
	}
	b = filledByWords(b, now)
	if b.Level > burst {
		b.Level = burst
	}
	return Bucket{rate, burst, b.Level, b.At}, api.OK
}

// mostByWords is Most by the words of P8.2.
func mostByWords(b Bucket, ticks int) int {
	if !rightByWords(b) {
		return 0
	}
	return bounded(sum(b.Burst, b.Rate, asTick(ticks)), top)
}

// bucketsOf are all buckets of these numbers.
func bucketsOf(numbers []int) []Bucket {
	var all []Bucket
	for _, rate := range numbers {
		for _, burst := range numbers {
			for _, level := range numbers {
				for _, at := range numbers {
					all = append(all, Bucket{rate, burst, level, at})
				}
			}
		}
	}
	return all
}

// rightOnes are the right buckets of the edges.
func rightOnes() []Bucket {
	var all []Bucket
	for _, b := range bucketsOf(rightEdges()) {
		if rightByWords(b) {
			all = append(all, b)
		}
	}
	return all
}

// wrongOnes are buckets that are not right, each for another thing.
func wrongOnes() []Bucket {
	return []Bucket{
		{},
		{3, 0, 0, 5},
		{3, 10, 11, 5},
		{3, 10, top, 5},
		{3, 10, math.MaxInt, 5},
		{3, 10, -1, 5},
		{3, 10, math.MinInt, 5},
		{-1, 10, 4, 5},
		{math.MinInt, 10, 4, 5},
		{top + 1, 10, 4, 5},
		{math.MaxInt, 10, 4, 5},
		{3, -1, -1, 5},
		{3, -1, -2, 5},
		{3, math.MinInt, math.MinInt, 5},
		{3, top + 1, 4, 5},
		{3, top + 1, top + 1, 5},
		{3, math.MaxInt, 4, 5},
		{3, 10, 4, -1},
		{3, 10, 4, math.MinInt},
		{3, 10, 4, top + 1},
		{3, 10, 4, math.MaxInt},
	}
}

// made is a new bucket.
func made(t *testing.T, rate, burst, now int) Bucket {
	t.Helper()
	b, e := New(rate, burst, now)
	if e != api.OK {
		t.Fatalf("P8.1: New(%d, %d, %d) is %v, %d", rate, burst, now, b, e)
	}
	return b
}

// P8.1

func TestNew(t *testing.T) {
	for _, x := range []struct{ rate, burst, now int }{
		{3, 10, 0},
		{3, 10, 5},
		{10, 3, 5},
		{0, 1, 0},
		{0, 10, 7},
		{top, 1, 0},
		{1, top, 0},
		{1, 1, top},
		{top, top, top},
		{top - 1, top - 1, top - 1},
	} {
		b, e := New(x.rate, x.burst, x.now)
		if e != api.OK || b != (Bucket{Rate: x.rate, Burst: x.burst, Level: x.burst, At: x.now}) {
			t.Errorf("P8.1: New(%d, %d, %d) is %+v, %d", x.rate, x.burst, x.now, b, e)
		}
	}
}

func TestNewRefuses(t *testing.T) {
	for _, x := range []struct{ rate, burst, now int }{
		{-1, 10, 5},
		{math.MinInt, 10, 5},
		{top + 1, 10, 5},
		{math.MaxInt, 10, 5},
		{3, 0, 5},
		{3, -1, 5},
		{3, math.MinInt, 5},
		{3, top + 1, 5},
		{3, math.MaxInt, 5},
		{3, 10, -1},
		{3, 10, math.MinInt},
		{3, 10, top + 1},
		{3, 10, math.MaxInt},
		{0, 0, 0},
		{-1, -1, -1},
		{top + 1, top + 1, top + 1},
	} {
		if b, e := New(x.rate, x.burst, x.now); e != api.ErrArg || b != (Bucket{}) {
			t.Errorf("P8.1: New(%d, %d, %d) is %+v, %d", x.rate, x.burst, x.now, b, e)
		}
	}
}

func TestNewOfAllEdges(t *testing.T) {
	for _, rate := range edges() {
		for _, burst := range edges() {
			for _, now := range edges() {
				want, wantErr := Bucket{rate, burst, burst, now}, api.OK
				if !rightByWords(want) {
					want, wantErr = Bucket{}, api.ErrArg
				}
				if b, e := New(rate, burst, now); b != want || e != wantErr {
					t.Errorf("P8.1: New(%d, %d, %d) is %+v, %d", rate, burst, now, b, e)
				}
			}
		}
	}
}

func TestRight(t *testing.T) {
	for _, b := range []Bucket{
		{3, 10, 4, 5}, {3, 10, 0, 5}, {3, 10, 10, 5}, {0, 10, 4, 5}, {3, 10, 4, 0}, {0, 1, 0, 0}, {0, 1, 1, 0},
		{20, 10, 4, 5}, {top, top, top, top}, {top, 1, 0, top},
	} {
		if !Right(b) {
			t.Errorf("P8.1: Right(%+v) is false", b)
		}
	}
	for _, b := range wrongOnes() {
		if Right(b) {
			t.Errorf("P8.1: Right(%+v) is true", b)
		}
	}
}

func TestRightOfAllEdges(t *testing.T) {
	for _, b := range bucketsOf(edges()) {
		if got, want := Right(b), rightByWords(b); got != want {
			t.Errorf("P8.1: Right(%+v) is %t", b, got)
		}
	}
}

// P8.2

func TestExample(t *testing.T) {
	b := made(t, 3, 10, 0)
	b, n := Take(b, 0, 12)
	if n != 10 || b != (Bucket{3, 10, 0, 0}) {
		t.Errorf("P8.2: Take(0, 12) is %+v, %d", b, n)
	}
	b, n = Take(b, 2, 9)
	if n != 6 || b != (Bucket{3, 10, 0, 2}) {
		t.Errorf("P8.2: Take(2, 9) is %+v, %d", b, n)
	}
	if at, is := When(b, 10); at != 6 || !is {
		t.Errorf("P8.2: When(10) is %d, %t", at, is)
	}
}

func TestOneThatIsNotRight(t *testing.T) {
	for _, b := range wrongOnes() {
		for _, n := range append(edges(), 4, 5, 6) {
			if c := Fill(b, n); c != b {
				t.Errorf("P8.2: Fill(%+v, %d) is %+v", b, n, c)
			}
			for _, now := range append(edges(), 5, 6) {
				if c, got := Take(b, now, n); c != b || got != 0 {
					t.Errorf("P8.2: Take(%+v, %d, %d) is %+v, %d", b, now, n, c, got)
				}
				if c, e := Change(b, 1, 2, now); c != (Bucket{}) || e != api.ErrArg {
					t.Errorf("P8.2: Change(%+v, 1, 2, %d) is %+v, %d", b, now, c, e)
				}
			}
			if at, is := When(b, n); at != 0 || is {
				t.Errorf("P8.2: When(%+v, %d) is %d, %t", b, n, at, is)
			}
			if got := Most(b, n); got != 0 {
				t.Errorf("P8.2: Most(%+v, %d) is %d", b, n, got)
			}
		}
	}
}

func TestFill(t *testing.T) {
	for _, x := range []struct {
		b         Bucket
		now       int
		level, at int
	}{
		{Bucket{3, 10, 4, 7}, 7, 4, 7},
		{Bucket{3, 10, 4, 7}, 6, 4, 7},
		{Bucket{3, 10, 4, 7}, 0, 4, 7},
		{Bucket{3, 10, 4, 7}, -1, 4, 7},
		{Bucket{3, 10, 4, 7}, math.MinInt, 4, 7},
		{Bucket{3, 10, 4, 7}, 8, 7, 8},
		{Bucket{3, 10, 4, 7}, 9, 10, 9},
		{Bucket{3, 10, 5, 7}, 9, 10, 9},
		{Bucket{3, 10, 4, 7}, 100, 10, 100},
		{Bucket{3, 10, 10, 7}, 8, 10, 8},
		{Bucket{0, 10, 4, 7}, 100, 4, 100},
		{Bucket{30, 10, 0, 7}, 8, 10, 8},
		{Bucket{1, 10, 0, 0}, 9, 9, 9},
		{Bucket{3, 10, 4, 7}, top, 10, top},
		{Bucket{3, 10, 4, 7}, top + 1, 10, top},
		{Bucket{3, 10, 4, 7}, math.MaxInt, 10, top},
		{Bucket{3, 10, 4, top}, math.MaxInt, 4, top},
		{Bucket{3, 10, 4, top - 1}, math.MaxInt, 7, top},
		{Bucket{1, top, 0, 0}, top - 1, top - 1, top - 1},
		{Bucket{1, top, 5, 0}, top - 5, top, top - 5},
		{Bucket{top, top, top, 0}, top, top, top},
		{Bucket{1 << 32, top, 0, 0}, 1 << 32, top, 1 << 32},
	} {
		want := Bucket{x.b.Rate, x.b.Burst, x.level, x.at}
		if b := Fill(x.b, x.now); b != want {
			t.Errorf("P8.2: Fill(%+v, %d) is %+v, not %+v", x.b, x.now, b, want)
		}
	}
}

func TestTake(t *testing.T) {
	for _, x := range []struct {
		b              Bucket
		now, n         int
		got, level, at int
	}{
		{Bucket{3, 10, 4, 7}, 7, 1, 1, 3, 7},
		{Bucket{3, 10, 4, 7}, 7, 4, 4, 0, 7},
		{Bucket{3, 10, 4, 7}, 7, 5, 4, 0, 7},
		{Bucket{3, 10, 4, 7}, 7, math.MaxInt, 4, 0, 7},
		{Bucket{3, 10, 4, 7}, 7, 0, 0, 4, 7},
		{Bucket{3, 10, 4, 7}, 7, -1, 0, 4, 7},
		{Bucket{3, 10, 4, 7}, 7, math.MinInt, 0, 4, 7},
		{Bucket{3, 10, 4, 7}, 8, 0, 0, 7, 8},
		{Bucket{3, 10, 4, 7}, 8, -1, 0, 7, 8},
		{Bucket{3, 10, 4, 7}, 8, 6, 6, 1, 8},
		{Bucket{3, 10, 4, 7}, 9, 12, 10, 0, 9},
		{Bucket{3, 10, 4, 7}, 2, 3, 3, 1, 7},
		{Bucket{3, 10, 4, 7}, -1, 9, 4, 0, 7},
		{Bucket{3, 10, 0, 7}, 7, 1, 0, 0, 7},
		{Bucket{0, 10, 0, 7}, 70, 1, 0, 0, 70},
		{Bucket{3, 10, 4, 7}, math.MaxInt, 1, 1, 9, top},
		{Bucket{1, top, top, 7}, 7, math.MaxInt, top, 0, 7},
		{Bucket{1, top, top, 7}, 7, top + 1, top, 0, 7},
	} {
		want := Bucket{x.b.Rate, x.b.Burst, x.level, x.at}
		if b, n := Take(x.b, x.now, x.n); b != want || n != x.got {
			t.Errorf("P8.2: Take(%+v, %d, %d) is %+v, %d, not %+v, %d", x.b, x.now, x.n, b, n, want, x.got)
		}
	}
}

func TestWhen(t *testing.T) {
	for _, x := range []struct {
		b    Bucket
		n    int
		want int
		is   bool
	}{
		{Bucket{3, 10, 4, 7}, math.MinInt, 7, true},
		{Bucket{3, 10, 4, 7}, -1, 7, true},
		{Bucket{3, 10, 4, 7}, 0, 7, true},
		{Bucket{3, 10, 4, 7}, 4, 7, true},
		{Bucket{3, 10, 4, 7}, 5, 8, true},
		{Bucket{3, 10, 4, 7}, 7, 8, true},
		{Bucket{3, 10, 4, 7}, 8, 9, true},
		{Bucket{3, 10, 4, 7}, 10, 9, true},
		{Bucket{3, 10, 4, 7}, 11, 0, false},
		{Bucket{3, 10, 4, 7}, top + 1, 0, false},
		{Bucket{3, 10, 4, 7}, math.MaxInt, 0, false},
		{Bucket{3, 10, 0, 0}, 0, 0, true},
		{Bucket{3, 10, 10, 7}, 10, 7, true},
		{Bucket{3, 10, 10, 7}, 11, 0, false},
		{Bucket{0, 10, 4, 7}, 4, 7, true},
		{Bucket{0, 10, 4, 7}, 5, 0, false},
		{Bucket{0, 10, 4, 0}, 5, 0, false},
		{Bucket{0, 10, 0, 0}, 1, 0, false},
		{Bucket{0, top, 0, 0}, top, 0, false},
		{Bucket{1, 10, 0, top - 10}, 10, top, true},
		{Bucket{1, 10, 0, top - 9}, 10, 0, false},
		{Bucket{1, 10, 0, top - 9}, 9, top, true},
		{Bucket{3, 10, 4, top - 1}, 7, top, true},
		{Bucket{3, 10, 4, top - 1}, 8, 0, false},
		{Bucket{top, 10, 4, top}, 5, 0, false},
		{Bucket{top, 10, 4, top}, 4, top, true},
		{Bucket{1, top, 0, 0}, top, top, true},
		{Bucket{1, top, 0, 1}, top, 0, false},
		{Bucket{1, top, 1, 1}, top, top, true},
		{Bucket{1, top, 0, 0}, top + 1, 0, false},
		{Bucket{1, top, top, 0}, top + 1, 0, false},
		{Bucket{1, top, top, 0}, math.MaxInt, 0, false},
		{Bucket{top, top, 0, 0}, top, 1, true},
	} {
		if at, is := When(x.b, x.n); at != x.want || is != x.is {
			t.Errorf("P8.2: When(%+v, %d) is %d, %t, not %d, %t", x.b, x.n, at, is, x.want, x.is)
		}
	}
}

func TestChange(t *testing.T) {
	for _, x := range []struct {
		b                Bucket
		rate, burst, now int
		level, at        int
	}{
		{Bucket{3, 10, 4, 7}, 1, 5, 8, 5, 8},
		{Bucket{3, 10, 4, 7}, 1, 5, 7, 4, 7},
		{Bucket{3, 10, 4, 7}, 1, 20, 7, 4, 7},
		{Bucket{3, 10, 4, 7}, 1, 20, 8, 7, 8},
		{Bucket{3, 10, 4, 7}, 1, 20, 100, 10, 100},
		{Bucket{3, 10, 4, 7}, 100, 20, 8, 7, 8},
		{Bucket{3, 10, 4, 7}, 3, 10, 7, 4, 7},
		{Bucket{3, 10, 4, 7}, 3, 3, 7, 3, 7},
		{Bucket{3, 10, 4, 7}, 3, 4, 7, 4, 7},
		{Bucket{3, 10, 4, 7}, 2, 3, 6, 3, 7},
		{Bucket{3, 10, 4, 7}, 2, 30, 0, 4, 7},
		{Bucket{3, 10, 4, 7}, 0, 1, 9, 1, 9},
		{Bucket{0, 10, 4, 7}, 5, 20, 100, 4, 100},
		{Bucket{3, 10, 4, 7}, top, top, top, 10, top},
	} {
		want := Bucket{x.rate, x.burst, x.level, x.at}
		if b, e := Change(x.b, x.rate, x.burst, x.now); b != want || e != api.OK {
			t.Errorf("P8.2: Change(%+v, %d, %d, %d) is %+v, %d, not %+v", x.b, x.rate, x.burst, x.now, b, e, want)
		}
	}
}

func TestChangeRefuses(t *testing.T) {
	for _, x := range []struct{ rate, burst, now int }{
		{-1, 10, 8}, {math.MinInt, 10, 8}, {top + 1, 10, 8}, {math.MaxInt, 10, 8},
		{3, 0, 8}, {3, -1, 8}, {3, math.MinInt, 8}, {3, top + 1, 8}, {3, math.MaxInt, 8},
		{3, 10, -1}, {3, 10, math.MinInt}, {3, 10, top + 1}, {3, 10, math.MaxInt},
	} {
		if b, e := Change(Bucket{3, 10, 4, 7}, x.rate, x.burst, x.now); b != (Bucket{}) || e != api.ErrArg {
			t.Errorf("P8.2: Change to %d, %d at %d is %+v, %d", x.rate, x.burst, x.now, b, e)
		}
	}
}

func TestMost(t *testing.T) {
	for _, x := range []struct {
		b           Bucket
		ticks, want int
	}{
		{Bucket{3, 10, 4, 7}, 0, 10},
		{Bucket{3, 10, 0, 7}, 1, 13},
		{Bucket{3, 10, 4, 7}, 4, 22},
		{Bucket{3, 10, 10, 0}, 4, 22},
		{Bucket{3, 10, 4, 7}, -1, 10},
		{Bucket{3, 10, 4, 7}, math.MinInt, 10},
		{Bucket{0, 10, 4, 7}, top, 10},
		{Bucket{1, 10, 4, 7}, top - 11, top - 1},
		{Bucket{1, 10, 4, 7}, top - 10, top},
		{Bucket{1, 10, 4, 7}, top - 9, top},
		{Bucket{1, 10, 4, 7}, math.MaxInt, top},
		{Bucket{0, top, 0, 0}, 5, top},
		{Bucket{top, top, 0, 0}, math.MaxInt, top},
		{Bucket{1 << 32, 1, 0, 0}, 1 << 32, top},
	} {
		if n := Most(x.b, x.ticks); n != x.want {
			t.Errorf("P8.2: Most(%+v, %d) is %d, not %d", x.b, x.ticks, n, x.want)
		}
	}
}

// levelAt is the level that Fill would have, by the words.
func levelAt(b Bucket, now int) int { return filledByWords(b, now).Level }

// whenIsLeast complains if When doesn't tell the least tick: that one is enough, and the one ahead of it is not; or, if there is none, not even the last one is.
func whenIsLeast(t *testing.T, b Bucket, n int) {
	t.Helper()
	at, is := When(b, n)
	if !is {
		if at != 0 || levelAt(b, top) >= n {
			t.Errorf("P8.2: When(%+v, %d) is %d, %t", b, n, at, is)
		}
		return
	}
	if !fits(at) || at < b.At || levelAt(b, at) < n || at > b.At && levelAt(b, at-1) >= n {
		t.Errorf("P8.2: When(%+v, %d) is %d, %t", b, n, at, is)
	}
}

func TestFillTakeWhenMostOfAllEdges(t *testing.T) {
	for _, b := range rightOnes() {
		for _, n := range append(edges(), b.At-1, b.At+1, b.Level-1, b.Level+1, b.Burst-1, b.Burst+1) {
			if got, want := Fill(b, n), filledByWords(b, n); got != want {
				t.Fatalf("P8.2: Fill(%+v, %d) is %+v, not %+v", b, n, got, want)
			}
			if got, want := Most(b, n), mostByWords(b, n); got != want {
				t.Fatalf("P8.2: Most(%+v, %d) is %d, not %d", b, n, got, want)
			}
			whenIsLeast(t, b, n)
			for _, now := range []int{math.MinInt, b.At - 1, b.At, b.At + 1, b.At + 7, math.MaxInt} {
				c, got := Take(b, now, n)
				if d, want := takenByWords(b, now, n); c != d || got != want {
					t.Fatalf("P8.2: Take(%+v, %d, %d) is %+v, %d, not %+v, %d", b, now, n, c, got, d, want)
				}
			}
		}
	}
}

func TestChangeOfAllEdges(t *testing.T) {
	for k, b := range bucketsOf([]int{-1, 0, 1, 3, 1 << 20, top, top + 1}) {
		// Of those that aren't right one in seven does: Change refuses them alike.
		if !rightByWords(b) && k%7 != 0 {
			continue
		}
		for _, rate := range edges() {
			for _, burst := range edges() {
				for _, now := range []int{math.MinInt, -1, 0, b.At - 1, b.At, 2, 1 << 33, top, top + 1} {
					c, e := Change(b, rate, burst, now)
					if d, want := changedByWords(b, rate, burst, now); c != d || e != want {
						t.Fatalf("P8.2: Change(%+v, %d, %d, %d) is %+v, %d, not %+v, %d", b, rate, burst, now, c, e, d, want)
					}
				}
			}
		}
	}
}

// TestSmallOnesTickByTick: each small bucket is filled by hand, a tick after the other.
func TestSmallOnesTickByTick(t *testing.T) {
	for _, b := range bucketsOf([]int{0, 1, 2, 3, 4, 5, 6, 7}) {
		if !rightByWords(b) {
			continue
		}
		reached := make([]int, b.Burst+1)
		for n := range reached {
			reached[n] = -1
		}
		level := b.Level
		for now := b.At; now < b.At+10; now++ {
			if got := Fill(b, now); got != (Bucket{b.Rate, b.Burst, level, now}) {
				t.Fatalf("P8.2: Fill(%+v, %d) is %+v", b, now, got)
			}
			for n := range level + 1 {
				if reached[n] < 0 {
					reached[n] = now
				}
			}
			level = min(level+b.Rate, b.Burst)
		}
		for n, want := range reached {
			at, is := When(b, n)
			if is != (want >= 0) || is && at != want || !is && at != 0 {
				t.Fatalf("P8.2: When(%+v, %d) is %d, %t, not %d", b, n, at, is, want)
			}
		}
	}
}

func TestFillByPartsIsFill(t *testing.T) {
	for _, b := range rightOnes() {
		for _, first := range []int{b.At, b.At + 1, b.At + 5, 1 << 33, top - 1} {
			for _, second := range []int{first, first + 1, 1 << 35, top} {
				if first < second && Fill(Fill(b, first), second) != Fill(b, second) {
					t.Fatalf("P8.2: %+v, filled at %d and at %d, is %+v, not %+v", b, first, second, Fill(Fill(b, first), second), Fill(b, second))
				}
			}
		}
	}
}

func TestTakenAtWhen(t *testing.T) {
	for _, b := range rightOnes() {
		for _, n := range rightEdges() {
			at, is := When(b, n)
			if !is {
				continue
			}
			if _, got := Take(b, at, n); got != n {
				t.Errorf("P8.2: When(%+v, %d) is %d, and Take there is %d", b, n, at, got)
			}
			if at > b.At {
				if _, got := Take(b, at-1, n); got >= n {
					t.Errorf("P8.2: When(%+v, %d) is %d, and Take ahead of it is %d", b, n, at, got)
				}
			}
		}
	}
}

// someNumber is a number by chance, one of the edges now and then.
func someNumber(chance *rand.Rand, most int) int {
	if chance.Intn(6) == 0 {
		return edges()[chance.Intn(len(edges()))]
	}
	return chance.Intn(most + 1)
}

// stepped is b after one call by chance, of these numbers; it complains if that isn't what it is by the words.
func stepped(t *testing.T, b Bucket, call, x, y, now int) Bucket {
	t.Helper()
	switch {
	case call == 0:
		c, e := Change(b, x, y, now)
		if d, want := changedByWords(b, x, y, now); c != d || e != want {
			t.Fatalf("P8.2: Change(%+v, %d, %d, %d) is %+v, %d, not %+v, %d", b, x, y, now, c, e, d, want)
		}
		if e != api.OK {
			return b
		}
		return c
	case call < 3:
		c := Fill(b, now)
		if d := filledByWords(b, now); c != d {
			t.Fatalf("P8.2: Fill(%+v, %d) is %+v, not %+v", b, now, c, d)
		}
		return c
	}
	c, n := Take(b, now, x)
	if d, want := takenByWords(b, now, x); c != d || n != want {
		t.Fatalf("P8.2: Take(%+v, %d, %d) is %+v, %d, not %+v, %d", b, now, x, c, n, d, want)
	}
	return c
}

func TestCallsByChance(t *testing.T) {
	chance := rand.New(rand.NewSource(81))
	for _, most := range []int{3, 20, 5000, 1 << 21, 1 << 34, top} {
		for range 200 {
			b := made(t, chance.Intn(most+1), 1+chance.Intn(most), chance.Intn(most))
			for range 60 {
				now := b.At + chance.Intn(most/20+5) - 1
				if chance.Intn(10) == 0 {
					now = someNumber(chance, most)
				}
				x := someNumber(chance, most)
				b = stepped(t, b, chance.Intn(10), x, someNumber(chance, most), now)
				if !Right(b) {
					t.Fatalf("P8.2: what comes of right buckets is %+v", b)
				}
				whenIsLeast(t, b, x)
			}
		}
	}
}

func TestWhatComesOfARightOneIsRight(t *testing.T) {
	for _, b := range rightOnes() {
		for _, now := range edges() {
			if c := Fill(b, now); !Right(c) {
				t.Errorf("P8.2: Fill(%+v, %d) is %+v", b, now, c)
			}
			for _, n := range []int{math.MinInt, -1, 0, 1, 7, top, math.MaxInt} {
				if c, _ := Take(b, now, n); !Right(c) {
					t.Errorf("P8.2: Take(%+v, %d, %d) is %+v", b, now, n, c)
				}
				if c, e := Change(b, 3, n, now); e == api.OK && !Right(c) {
					t.Errorf("P8.2: Change(%+v, 3, %d, %d) is %+v", b, n, now, c)
				}
			}
		}
	}
}

// P8.3

// gone is how many bytes were taken, and when: by the bucket's own tick.
type gone struct{ at, n int }

// windowsHold complains if in some window more is taken than Most. The windows that begin and end at a Take are enough: a longer one has no more in it, and a greater Most.
func windowsHold(t *testing.T, b Bucket, row []gone) {
	t.Helper()
	for k := range row {
		all := 0
		for _, x := range row[k:] {
			all += x.n
			if w := x.at - row[k].at; all > Most(b, w) {
				t.Fatalf("P8.3: of %+v %d are taken from %d to %d: Most(%d) is %d; all: %v", b, all, row[k].at, x.at, w, Most(b, w), row)
			}
		}
	}
}

// takeAll goes on from b in every way for so many steps, and looks at the windows.
func takeAll(t *testing.T, first, b Bucket, row []gone, steps int) {
	if steps == 0 {
		windowsHold(t, first, row)
		return
	}
	for later := range 3 {
		for _, n := range []int{1, 2, b.Burst, b.Burst + 1} {
			c, got := Take(b, b.At+later, n)
			takeAll(t, first, c, append(row[:len(row):len(row)], gone{c.At, got}), steps-1)
		}
	}
}

func TestWindowsOfEachWayToTake(t *testing.T) {
	for rate := range 4 {
		for burst := 1; burst <= 4; burst++ {
			for level := 0; level <= burst; level++ {
				b := Bucket{rate, burst, level, 5}
				takeAll(t, b, b, nil, 4)
			}
		}
	}
}

func TestWindowsByChance(t *testing.T) {
	chance := rand.New(rand.NewSource(83))
	for range 300 {
		rate, burst := chance.Intn(20), 1+chance.Intn(60)
		first := made(t, rate, burst, chance.Intn(100))
		b, row := first, []gone(nil)
		for range 80 {
			now := b.At + max(0, chance.Intn(8)-4)
			switch chance.Intn(20) {
			case 0:
				now = b.At - 1 - chance.Intn(9) // a tick that is gone adds nothing
			case 1:
				b = Fill(b, now)
			}
			c, n := Take(b, now, chance.Intn(burst+9)-2)
			b, row = c, append(row, gone{c.At, n})
		}
		windowsHold(t, first, row)
	}
}

func TestWindowsAtTheEnd(t *testing.T) {
	first := made(t, 7, 10, top-3)
	b, row, all := first, []gone(nil), 0
	for now := top - 5; now < top+20; now++ {
		c, n := Take(b, now, 100)
		b, row, all = c, append(row, gone{c.At, n}), all+n
	}
	windowsHold(t, first, row)
	if all != 31 {
		t.Errorf("P8.3: in the last 3 ticks %d are taken, not 31", all)
	}
}

// TestMostIsTaken: who takes all there is at each tick of a window has Most of it, if no tick brings more than Burst.
func TestMostIsTaken(t *testing.T) {
	for burst := 1; burst < 12; burst++ {
		for rate := range burst + 1 {
			first := made(t, rate, burst, 3)
			b, all := first, 0
			for w := range 30 {
				c, n := Take(b, 3+w, math.MaxInt)
				b, all = c, all+n
				if all != Most(first, w) {
					t.Fatalf("P8.3: of %+v %d are taken in %d ticks: Most is %d", first, all, w, Most(first, w))
				}
			}
		}
	}
}

// R7

func TestTheSameCallsTellTheSame(t *testing.T) {
	for _, b := range append(rightOnes(), wrongOnes()...) {
		c, n := Take(b, 1<<33, 7)
		d, m := Take(b, 1<<33, 7)
		at, is := When(b, 7)
		later, was := When(b, 7)
		if c != d || n != m || at != later || is != was || Fill(b, 9) != Fill(b, 9) || Most(b, 9) != Most(b, 9) {
			t.Errorf("R7: of %+v the same calls tell different ones", b)
		}
	}
}
