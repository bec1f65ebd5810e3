package cargo

import (
	"fmt"
	"math"
	"math/rand"
	"slices"
	"strings"
	"testing"

	"chicane/api"
)

// cell is one byte, and the tick from which on it is ready.
type cell struct {
	at int
	b  byte
}

// both is cargo, and beside it what it is by the words: bytes one by one.
type both struct {
	c    *Cargo
	row  []cell
	last int
}

// made is new cargo, with nothing in it.
func made(t *testing.T) *both {
	t.Helper()
	x := &both{c: New()}
	if x.c == nil {
		t.Fatal("P7.1: New is nil")
	}
	return x
}

// pieces is new cargo, in which these were put, in order.
func pieces(t *testing.T, l ...Piece) *both {
	t.Helper()
	x := made(t)
	for _, p := range l {
		x.step(t, put(p.At, p.B))
	}
	return x
}

// asTick is the right number that is nearest to n.
func asTick(n int) int {
	if n < 0 {
		return 0
	}
	if n > api.MaxTick {
		return api.MaxTick
	}
	return n
}

// ready is how many of the cells, from the first one on, are ready at now.
func ready(row []cell, now int) int {
	n := 0
	for n < len(row) && row[n].at <= now {
		n++
	}
	return n
}

// listed is the cells, as pieces of one tick each.
func listed(row []cell) []Piece {
	var l []Piece
	for k, x := range row {
		if k == 0 || row[k-1].at != x.at {
			l = append(l, Piece{At: x.at})
		}
		l[len(l)-1].B += string([]byte{x.b})
	}
	return l
}

// text is the bytes of the cells.
func text(row []cell) string {
	var b []byte
	for _, x := range row {
		b = append(b, x.b)
	}
	return string(b)
}

// edges are ticks that no byte is put at, and those of the ends.
func edges() []int {
	return []int{math.MinInt, math.MinInt + 1, -api.MaxTick, -1, 0, 1, api.MaxTick - 1, api.MaxTick, api.MaxTick + 1, 1 << 62, math.MaxInt - 1, math.MaxInt}
}

// stands complains if the cargo is not what it is by the words.
func (x *both) stands(t *testing.T, what string) {
	t.Helper()
	want := listed(x.row)
	if l := x.c.List(); !slices.Equal(l, want) {
		t.Fatalf("P7.2: %s: List is %.300v, not %.300v", what, l, want)
	}
	if n := x.c.Len(); n != len(x.row) {
		t.Fatalf("P7.1: %s: Len is %d, not %d", what, n, len(x.row))
	}
	if at := x.c.Last(); at != x.last {
		t.Fatalf("P7.1: %s: Last is %d, not %d", what, at, x.last)
	}
	at, is := x.c.Next()
	if is != (len(x.row) > 0) || is && at != x.row[0].at || !is && at != 0 {
		t.Fatalf("P7.2: %s: Next is %d, %t, of %.300v", what, at, is, want)
	}
	for _, p := range want {
		for now := p.At - 1; now <= p.At+1; now++ {
			x.tells(t, what, now)
		}
	}
}

// tells complains if Ready at now is not what it is by the words.
func (x *both) tells(t *testing.T, what string, now int) {
	t.Helper()
	if n := x.c.Ready(now); n != ready(x.row, now) {
		t.Fatalf("P7.2: %s: Ready(%d) is %d, not %d, of %.300v", what, now, n, ready(x.row, now), listed(x.row))
	}
}

// thing is one that may be done: at a tick, with so many bytes at most, or with these.
type thing struct {
	kind     string
	at, most int
	b        string
}

// put, take, hurry and drain are to do that.
func put(at int, b string) thing { return thing{kind: "put", at: at, b: b} }
func take(at, most int) thing    { return thing{kind: "take", at: at, most: most} }
func hurry(at int) thing         { return thing{kind: "hurry", at: at} }
func drain() thing               { return thing{kind: "drain"} }

// step does one thing to both, and complains if they tell different ones.
func (x *both) step(t *testing.T, y thing) {
	t.Helper()
	promise, told, want := "P7.2", "", ""
	switch y.kind {
	case "put":
		promise = "P7.1"
		at := max(asTick(y.at), x.last)
		told, want = fmt.Sprint(x.c.Put(y.at, []byte(y.b))), fmt.Sprint(at)
		for _, b := range []byte(y.b) {
			x.row, x.last = append(x.row, cell{at, b}), at
		}
	case "ready":
		told, want = fmt.Sprint(x.c.Ready(y.at)), fmt.Sprint(ready(x.row, y.at))
	case "take":
		n := max(0, min(ready(x.row, y.at), y.most))
		told, want = string(x.c.Take(y.at, y.most)), text(x.row[:n])
		x.row = x.row[n:]
	case "hurry":
		x.c.Hurry(y.at)
		for k := range x.row {
			x.row[k].at = min(x.row[k].at, asTick(y.at))
		}
		x.last = min(x.last, asTick(y.at))
	case "drain":
		told, want = string(x.c.Drain()), text(x.row)
		x.row = nil
	case "copy":
		x.c = x.c.Copy()
	}
	if told != want {
		t.Fatalf("%s: %.100v tells %.300q, not %.300q", promise, y, told, want)
	}
	x.stands(t, fmt.Sprintf("%.100v", y))
}

// P7.1

func TestNew(t *testing.T) {
	x := made(t)
	x.stands(t, "new")
	for _, at := range edges() {
		x.step(t, thing{kind: "ready", at: at})
		x.step(t, take(at, 9))
		x.step(t, hurry(at))
	}
	x.step(t, drain())
	x.step(t, thing{kind: "copy"})
}

func TestNewOnesShareNothing(t *testing.T) {
	a, b := pieces(t, Piece{5, "ab"}), pieces(t, Piece{3, "c"}, Piece{4, "d"})
	a.stands(t, "the first")
	b.stands(t, "the second")
}

func TestPut(t *testing.T) {
	for _, x := range []struct {
		at   []int
		want []int
	}{
		{[]int{0}, []int{0}},
		{[]int{1}, []int{1}},
		{[]int{5, 5, 5}, []int{5, 5, 5}},
		{[]int{5, 3, 0}, []int{5, 5, 5}},
		{[]int{3, 5, 4, 6}, []int{3, 5, 5, 6}},
		{[]int{1, 2, 3}, []int{1, 2, 3}},
		{[]int{-1}, []int{0}},
		{[]int{math.MinInt, 1}, []int{0, 1}},
		{[]int{7, -1}, []int{7, 7}},
		{[]int{7, math.MinInt}, []int{7, 7}},
		{[]int{api.MaxTick - 1, api.MaxTick}, []int{api.MaxTick - 1, api.MaxTick}},
		{[]int{api.MaxTick + 1}, []int{api.MaxTick}},
		{[]int{math.MaxInt, 0}, []int{api.MaxTick, api.MaxTick}},
		{[]int{1 << 32, 1, 1<<32 + 1}, []int{1 << 32, 1 << 32, 1<<32 + 1}},
	} {
		c := New()
		for k, at := range x.at {
			if n := c.Put(at, []byte("ab")); n != x.want[k] || c.Last() != x.want[k] || c.Len() != 2*k+2 {
				t.Errorf("P7.1: Put(%d), the call %d of %v, is %d; Last is %d, Len is %d", at, k, x.at, n, c.Last(), c.Len())
			}
		}
	}
}

func TestPutOfNothing(t *testing.T) {
	for _, l := range [][]Piece{nil, {{5, "ab"}}, {{5, "ab"}, {7, "c"}}, {{api.MaxTick, "ab"}}} {
		for _, at := range append(edges(), 4, 5, 6, 7, 8) {
			x := pieces(t, l...)
			want := max(asTick(at), x.last)
			for _, none := range [][]byte{nil, {}} {
				if n := x.c.Put(at, none); n != want {
					t.Errorf("P7.1: Put(%d) of nothing is %d, not %d, with %v", at, n, want, l)
				}
				x.stands(t, "nothing is put")
			}
			x.step(t, put(6, "z"))
		}
	}
}

func TestEachPutIsTold(t *testing.T) {
	x := made(t)
	for k := range 300 {
		x.step(t, put(k/3, "abcd"[:k%4]))
	}
}

func TestAllBytesMayBePut(t *testing.T) {
	var all []byte
	for k := range 256 {
		all = append(all, byte(k))
	}
	x := pieces(t, Piece{1, string(all)}, Piece{1, string(all)}, Piece{2, string(all)})
	if b := x.c.Drain(); string(b) != strings.Repeat(string(all), 3) {
		t.Errorf("P7.2: Drain of all bytes is %q", b)
	}
}

func TestLastStays(t *testing.T) {
	x := pieces(t, Piece{5, "ab"}, Piece{9, "c"})
	for _, y := range []thing{
		take(9, 9),
		put(8, ""),
		put(2, "d"),
		drain(),
		{kind: "copy"},
		put(2, "e"),
	} {
		x.step(t, y)
		if at := x.c.Last(); at != 9 {
			t.Errorf("P7.1: %v, and Last is %d", y, at)
		}
	}
}

// P7.2

func TestExample(t *testing.T) {
	c := New()
	if a, b := c.Put(5, []byte("ab")), c.Put(3, []byte("c")); a != 5 || b != 5 {
		t.Error("P7.1: Put is", a, b)
	}
	if b := c.Take(4, 9); len(b) != 0 {
		t.Errorf("P7.2: Take(4, 9) is %q", b)
	}
	if b := c.Take(5, 2); string(b) != "ab" {
		t.Errorf("P7.2: Take(5, 2) is %q", b)
	}
	if l := c.List(); !slices.Equal(l, []Piece{{5, "c"}}) {
		t.Error("P7.2: List is", l)
	}
}

// several are cargoes that differ.
func several() [][]Piece {
	return [][]Piece{
		nil,
		{{0, "a"}},
		{{0, "abc"}, {1, "d"}},
		{{5, "ab"}, {7, "cde"}, {8, "f"}, {12, "gh"}},
		{{5, "ab"}, {5, "cd"}, {7, "e"}, {7, "f"}, {7, "g"}},
		{{api.MaxTick - 1, "ab"}, {api.MaxTick, "cd"}},
		{{0, "a"}, {api.MaxTick, "bc"}},
		{{1 << 31, "a"}, {1 << 32, "bc"}, {1<<32 + 1, "d"}},
	}
}

// ticksOf are the edges, and those at the cargo's pieces and beside them.
func ticksOf(l []Piece) []int {
	all := edges()
	for _, p := range l {
		all = append(all, p.At-1, p.At, p.At+1)
	}
	return all
}

func TestReady(t *testing.T) {
	for _, l := range several() {
		for _, now := range ticksOf(l) {
			pieces(t, l...).step(t, thing{kind: "ready", at: now})
		}
	}
}

func TestReadyOfATickBelow0(t *testing.T) {
	x := pieces(t, Piece{0, "ab"})
	if a, b := x.c.Ready(-1), x.c.Ready(math.MinInt); a != 0 || b != 0 {
		t.Errorf("P7.2: of tick 0, Ready(-1) is %d, of the least number %d", a, b)
	}
	if b := x.c.Take(-1, 9); len(b) != 0 || x.c.Len() != 2 {
		t.Errorf("P7.2: of tick 0, Take(-1, 9) is %q", b)
	}
	if n := x.c.Ready(0); n != 2 {
		t.Errorf("P7.2: of tick 0, Ready(0) is %d", n)
	}
}

func TestTake(t *testing.T) {
	for _, l := range several() {
		for _, now := range ticksOf(l) {
			for _, most := range []int{math.MinInt, -2, -1, 0, 1, 2, 3, 4, 5, 6, 7, 8, 9, 1 << 32, math.MaxInt} {
				x := pieces(t, l...)
				x.step(t, take(now, most))
				x.step(t, put(7, "z"))
				x.step(t, take(now, most))
				x.step(t, take(math.MaxInt, math.MaxInt))
			}
		}
	}
}

func TestNext(t *testing.T) {
	c := pieces(t, Piece{5, "ab"}, Piece{7, "c"}, Piece{0, "d"}, Piece{9, "e"}).c
	for _, want := range []int{5, 5, 7, 7, 9} {
		for range 2 {
			if at, is := c.Next(); at != want || !is {
				t.Errorf("P7.2: Next is %d, %t, not %d", at, is, want)
			}
		}
		c.Take(9, 1)
	}
	if at, is := c.Next(); at != 0 || is {
		t.Errorf("P7.2: Next of none is %d, %t", at, is)
	}
	c.Put(0, nil)
	if at, is := c.Next(); at != 0 || is {
		t.Errorf("P7.2: Next, nothing put, is %d, %t", at, is)
	}
}

func TestNextOfTick0(t *testing.T) {
	if at, is := pieces(t, Piece{0, "a"}).c.Next(); at != 0 || !is {
		t.Errorf("P7.2: Next of a byte of tick 0 is %d, %t", at, is)
	}
}

func TestListIsAsFewAsCanBe(t *testing.T) {
	for _, x := range []struct {
		what string
		do   func(c *Cargo)
		want []Piece
	}{
		{"of one tick", func(c *Cargo) { c.Put(9, []byte("x")); c.Put(9, []byte("y")) }, []Piece{{5, "ab"}, {7, "c"}, {9, "dexy"}}},
		{"of a lesser tick", func(c *Cargo) { c.Put(2, []byte("x")) }, []Piece{{5, "ab"}, {7, "c"}, {9, "dex"}}},
		{"nothing between", func(c *Cargo) { c.Put(11, nil); c.Put(9, []byte("x")) }, []Piece{{5, "ab"}, {7, "c"}, {9, "dex"}}},
		{"hurried to a tick between", func(c *Cargo) { c.Hurry(6) }, []Piece{{5, "ab"}, {6, "cde"}}},
		{"hurried to a tick of one", func(c *Cargo) { c.Hurry(7) }, []Piece{{5, "ab"}, {7, "cde"}}},
		{"hurried to that of the first", func(c *Cargo) { c.Hurry(5) }, []Piece{{5, "abcde"}}},
		{"hurried to 0", func(c *Cargo) { c.Hurry(0) }, []Piece{{0, "abcde"}}},
		{"hurried, and put", func(c *Cargo) { c.Hurry(6); c.Put(6, []byte("x")); c.Put(7, []byte("y")) }, []Piece{{5, "ab"}, {6, "cdex"}, {7, "y"}}},
		{"taken, and put", func(c *Cargo) { c.Take(9, 4); c.Put(9, []byte("x")) }, []Piece{{9, "ex"}}},
		{"all taken, and put", func(c *Cargo) { c.Take(9, 5); c.Put(9, []byte("x")) }, []Piece{{9, "x"}}},
		{"some taken, and hurried", func(c *Cargo) { c.Take(5, 1); c.Hurry(5) }, []Piece{{5, "bcde"}}},
		{"some taken, and hurried to a lesser tick", func(c *Cargo) { c.Take(5, 1); c.Hurry(4) }, []Piece{{4, "bcde"}}},
		{"a piece taken, and hurried to its tick", func(c *Cargo) { c.Take(5, 2); c.Hurry(5) }, []Piece{{5, "cde"}}},
	} {
		c := pieces(t, Piece{5, "ab"}, Piece{7, "c"}, Piece{9, "de"}).c
		x.do(c)
		if l := c.List(); !slices.Equal(l, x.want) {
			t.Errorf("P7.2: %s: List is %v, not %v", x.what, l, x.want)
		}
	}
}

func TestHurry(t *testing.T) {
	for _, l := range several() {
		for taken := range 4 {
			for _, at := range ticksOf(l) {
				x := pieces(t, l...)
				x.step(t, take(api.MaxTick, taken))
				x.step(t, hurry(at))
				x.step(t, hurry(at))
				x.step(t, put(7, "yz"))
				x.step(t, take(at, 3))
			}
		}
	}
}

func TestHurryOfNone(t *testing.T) {
	for _, x := range []struct{ at, want int }{
		{math.MinInt, 0}, {-1, 0}, {0, 0}, {1, 1}, {8, 8}, {9, 9}, {10, 9}, {api.MaxTick + 1, 9}, {math.MaxInt, 9},
	} {
		c := pieces(t, Piece{9, "ab"}).c
		c.Drain()
		c.Hurry(x.at)
		if c.Last() != x.want || c.Len() != 0 {
			t.Errorf("P7.2: none is left: Hurry(%d), and Last is %d, Len is %d", x.at, c.Last(), c.Len())
		}
		if at := c.Put(0, []byte("c")); at != x.want {
			t.Errorf("P7.1: none is left: Hurry(%d), and Put is %d", x.at, at)
		}
	}
}

func TestDrain(t *testing.T) {
	for _, l := range several() {
		for taken := range 4 {
			x := pieces(t, l...)
			x.step(t, take(api.MaxTick, taken))
			last := x.c.Last()
			x.step(t, drain())
			x.step(t, drain())
			if x.c.Last() != last {
				t.Errorf("P7.2: Drain, and Last is %d, not %d", x.c.Last(), last)
			}
			x.step(t, put(3, "z"))
			x.step(t, drain())
		}
	}
}

func TestCopy(t *testing.T) {
	for _, l := range several() {
		for taken := range 4 {
			x := pieces(t, l...)
			x.step(t, take(api.MaxTick, taken))
			y := &both{c: x.c.Copy(), row: slices.Clone(x.row), last: x.last}
			if y.c == nil || y.c == x.c {
				t.Fatal("P7.2: the copy is nil, or the cargo itself")
			}
			y.stands(t, "the copy")
			for k, s := range []thing{
				put(6, "yz"), take(7, 2), hurry(6), put(20, "x"), hurry(1), drain(), put(9, "w"),
			} {
				changed, other := x, y
				if k%2 == 1 {
					changed, other = y, x
				}
				changed.step(t, s)
				other.stands(t, fmt.Sprintf("the other one, changed by %v", s))
			}
		}
	}
}

func TestCopiesShareNoRoom(t *testing.T) {
	x := made(t)
	for k := range 20 {
		x.step(t, put(1, "a"))
		first := &both{c: x.c.Copy(), row: slices.Clone(x.row), last: x.last}
		second := &both{c: x.c.Copy(), row: slices.Clone(x.row), last: x.last}
		x.step(t, put(2*k, "b"))
		first.step(t, put(2*k+1, "cd"))
		second.step(t, put(2*k+2, "ef"))
		x.stands(t, "the cargo")
		first.stands(t, "the first copy")
		second.stands(t, "the second copy")
	}
}

// R5, R6

func TestWhatIsPutStaysAsItWas(t *testing.T) {
	b := []byte("abcdef")
	c := New()
	c.Put(3, b[:2])
	c.Put(4, b[2:4])
	c.Hurry(3)
	c.Take(3, 1)
	if string(b) != "abcdef" {
		t.Errorf("R5: Put has changed its bytes to %q", b)
	}
	copy(b, "xxxxxx")
	if l := c.List(); !slices.Equal(l, []Piece{{3, "bcd"}}) {
		t.Errorf("R6: what was put is written into, and List is %v", l)
	}
}

// overwrite writes into all of b, and behind it, as far as there is room.
func overwrite(b []byte) {
	b = b[:cap(b)]
	for k := range b {
		b[k] = '#'
	}
}

func TestWhatIsToldIsTheCallers(t *testing.T) {
	x := pieces(t, Piece{3, "abc"}, Piece{4, "defgh"}, Piece{9, "ijk"})
	y := &both{c: x.c.Copy(), row: slices.Clone(x.row), last: x.last}
	var told [][]byte
	for _, b := range [][]byte{x.c.Take(3, 1), x.c.Take(9, 4), x.c.Take(1, 4), x.c.Take(9, 0)} {
		told = append(told, slices.Clone(b))
		overwrite(b)
	}
	if got := fmt.Sprintf("%s", told); got != "[a bcde  ]" {
		t.Errorf("P7.2: Take tells %s", got)
	}
	x.row = x.row[5:]
	x.stands(t, "what was taken is written into")
	l := x.c.List()
	for k := range l {
		l[k] = Piece{1, "#"}
	}
	x.stands(t, "the list is written into")
	first := x.c.Drain()
	x.c.Put(9, []byte("mnopqr"))
	if string(first) != "fghijk" {
		t.Errorf("R6: Drain told %q, when more was put", first)
	}
	overwrite(first)
	x.row = []cell{{9, 'm'}, {9, 'n'}, {9, 'o'}, {9, 'p'}, {9, 'q'}, {9, 'r'}}
	x.stands(t, "what was drained is written into")
	y.stands(t, "the copy, all that was told written into")
}

func TestWhatWasTakenStays(t *testing.T) {
	c := New()
	var taken [][]byte
	for k := range 50 {
		c.Put(k, []byte{byte(k), byte(k), byte(k)})
		taken = append(taken, c.Take(k, 2))
	}
	var all []byte
	for _, b := range taken {
		all = append(all, b...)
	}
	all = append(all, c.Drain()...)
	for k, b := range all {
		if int(b) != k/3 {
			t.Fatalf("R6: the byte %d that was taken is %d", k, b)
		}
	}
}

// P7.3

// things are those that differ, of a few bytes.
func things() []thing {
	l := []thing{{kind: "copy"}, drain(), put(3, ""), take(-1, 9), hurry(-1)}
	for at := range 3 {
		l = append(l, put(at, "a"), put(at, "bc"), hurry(at))
		for most := 1; most <= 3; most++ {
			l = append(l, take(at, most))
		}
	}
	return l
}

func TestAllOfFourThings(t *testing.T) {
	l := things()
	for a := range l {
		for b := range l {
			for c := range l {
				for d := range l {
					x := made(t)
					for _, k := range []int{a, b, c, d} {
						x.step(t, l[k])
					}
				}
			}
		}
	}
}

// letters is so many by chance: what goes wrong is to be read.
func letters(chance *rand.Rand, n int) string {
	b := make([]byte, n)
	for k := range b {
		b[k] = 'a' + byte(chance.Intn(26))
	}
	return string(b)
}

// someThing is a thing by chance, at a tick below ticks.
func someThing(chance *rand.Rand, ticks int) thing {
	at, b := chance.Intn(ticks), letters(chance, chance.Intn(6))
	switch n := chance.Intn(100); {
	case n < 50:
		return put(at, b)
	case n < 75:
		return take(at, chance.Intn(8)-1)
	case n < 80:
		return take(at, math.MaxInt)
	case n < 88:
		return hurry(at)
	case n < 92:
		return thing{kind: "ready", at: edges()[chance.Intn(len(edges()))]}
	case n < 94:
		return thing{kind: "copy"}
	case n < 95:
		return drain()
	}
	kind := []string{"put", "take", "hurry"}[chance.Intn(3)]
	return thing{kind, edges()[chance.Intn(len(edges()))], len(b), b}
}

func TestThingsByChance(t *testing.T) {
	chance := rand.New(rand.NewSource(71))
	for _, ticks := range []int{1, 2, 3, 10, 100, 1 << 33, api.MaxTick + 1} {
		for range 40 {
			x := made(t)
			for range 200 {
				x.step(t, someThing(chance, ticks))
			}
		}
	}
}

// TestInOrderAndNoneAheadOfItsTick: bytes are put while the clock goes on, and taken all the while.
func TestInOrderAndNoneAheadOfItsTick(t *testing.T) {
	chance := rand.New(rand.NewSource(72))
	c := New()
	var all, taken []byte
	var ticks []int
	takeAndLook := func(now, most int) {
		b := c.Take(now, most)
		taken = append(taken, b...)
		if len(b) > max(0, most) || c.Len() != len(all)-len(taken) {
			t.Fatalf("P7.3: Take(%d, %d) is of %d bytes; %d were put, %d are taken, %d are there", now, most, len(b), len(all), len(taken), c.Len())
		}
		for k := len(taken) - len(b); k < len(taken); k++ {
			if taken[k] != all[k] || ticks[k] > now {
				t.Fatalf("P7.3: Take(%d, %d) has %d as the byte %d; it was %d, of tick %d", now, most, taken[k], k, all[k], ticks[k])
			}
		}
	}
	for now := range 5000 {
		for range chance.Intn(4) {
			b := []byte(letters(chance, chance.Intn(5)))
			want := now + chance.Intn(30)
			at := c.Put(want, b)
			if at < want {
				t.Fatalf("P7.1: Put(%d) is %d", want, at)
			}
			all = append(all, b...)
			for range b {
				ticks = append(ticks, at)
			}
		}
		if chance.Intn(50) == 0 {
			c.Hurry(now + 5)
			for k := range ticks {
				ticks[k] = min(ticks[k], now+5)
			}
		}
		takeAndLook(now, chance.Intn(12)-2)
	}
	takeAndLook(api.MaxTick, math.MaxInt)
	if c.Len() != 0 || len(taken) != len(all) {
		t.Errorf("P7.3: %d were put, and %d are taken", len(all), len(taken))
	}
}

func TestManyBytes(t *testing.T) {
	c := New()
	const n = 200000
	for k := range n {
		if at := c.Put(k/2, []byte{byte(k)}); at != k/2 {
			t.Fatalf("P7.1: Put(%d) is %d", k/2, at)
		}
	}
	if a, b := c.Ready(n/4-1), len(c.List()); a != n/2 || b != n/2 {
		t.Errorf("P7.2: of %d bytes %d are ready at the tick in the middle, and List has %d pieces", n, a, b)
	}
	for k := range n / 2 {
		if b := c.Take(k/2, 1); len(b) != 1 || b[0] != byte(k) {
			t.Fatalf("P7.3: the byte %d is taken as %v", k, b)
		}
	}
	c.Hurry(n / 4)
	if l := c.List(); len(l) != 1 || l[0].At != n/4 || len(l[0].B) != n/2 {
		t.Errorf("P7.2: hurried, List has %d pieces", len(l))
	}
	if b := c.Drain(); len(b) != n/2 || b[0] != byte(n/2%256) || b[len(b)-1] != byte((n-1)%256) {
		t.Errorf("P7.2: Drain is of %d bytes", len(b))
	}
}

// R7

func TestTheSameCallsTellTheSame(t *testing.T) {
	run := func() string {
		chance := rand.New(rand.NewSource(73))
		x := made(t)
		var told strings.Builder
		for range 300 {
			x.step(t, someThing(chance, 20))
			at, is := x.c.Next()
			fmt.Fprint(&told, x.c.List(), x.c.Ready(9), x.c.Len(), x.c.Last(), at, is)
		}
		return told.String()
	}
	if run() != run() {
		t.Error("R7: the same calls tell different ones")
	}
}
