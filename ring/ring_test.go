package ring

import (
	"bytes"
	"fmt"
	"math"
	"math/rand"
	"testing"

	"chicane/api"
)

// made is a new ring of that room.
func made(t *testing.T, room int) *Ring {
	t.Helper()
	r, e := New(room)
	if e != api.OK || r == nil {
		t.Fatalf("P5.1: New(%d) is %v, %d", room, r, e)
	}
	return r
}

// stands complains if the ring doesn't have just these bytes, and that room.
func stands(t *testing.T, what string, r *Ring, room int, want string) {
	t.Helper()
	free := room - len(want)
	if free < 0 {
		free = 0
	}
	if r.Room() != room || r.Len() != len(want) || r.Free() != free {
		t.Fatalf("P5.1: %s: Room %d, Len %d, Free %d; not %d, %d, %d", what, r.Room(), r.Len(), r.Free(), room, len(want), free)
	}
	if all := r.Peek(r.Len()); string(all) != want {
		t.Fatalf("P5.2: %s: it has %q.., not %q..", what, short(all), short([]byte(want)))
	}
}

// short is as much of b as is worth telling.
func short(b []byte) []byte { return b[:min(len(b), 40)] }

// rising is n bytes, each of which is the one ahead of it and 1.
func rising(from, n int) []byte {
	b := make([]byte, n)
	for i := range b {
		b[i] = byte(from + i)
	}
	return b
}

// counts are numbers that may be asked for, of a ring that has so many bytes.
func counts(there int) []int {
	return []int{math.MinInt, -there - 1, -there, -1, 0, 1, 2, there - 1, there, there + 1, api.MaxRoom, math.MaxInt - there, math.MaxInt}
}

// P5.1

func TestNew(t *testing.T) {
	for room := range api.MaxRoom + 1 {
		stands(t, "new", made(t, room), room, "")
	}
}

func TestNewRefuses(t *testing.T) {
	for _, room := range []int{-1, -2, -api.MaxRoom, math.MinInt, api.MaxRoom + 1, api.MaxRoom + 2, 1 << 32, 1 << 40, math.MaxInt} {
		if r, e := New(room); r != nil || e != api.ErrArg {
			t.Errorf("P5.1: New(%d) is %v, %d", room, r, e)
		}
	}
}

func TestWrite(t *testing.T) {
	for _, x := range []struct {
		room         int
		there, b     string
		want         int
		wantTogether string
	}{
		{3, "", "", 0, ""}, {3, "", "a", 1, "a"}, {3, "", "ab", 2, "ab"}, {3, "", "abc", 3, "abc"}, {3, "", "abcd", 3, "abc"}, {3, "", "abcdefghi", 3, "abc"},
		{3, "x", "", 0, "x"}, {3, "x", "a", 1, "xa"}, {3, "x", "ab", 2, "xab"}, {3, "x", "abc", 2, "xab"},
		{3, "xyz", "", 0, "xyz"}, {3, "xyz", "a", 0, "xyz"}, {3, "xyzz", "", 0, "xyzz"}, {3, "xyzz", "a", 0, "xyzz"}, {3, "xyzzyxyzzy", "abc", 0, "xyzzyxyzzy"},
		{0, "", "", 0, ""}, {0, "", "a", 0, ""}, {0, "x", "a", 0, "x"},
		{9, "x\x00", "\x00\xff\x80", 3, "x\x00\x00\xff\x80"},
	} {
		r := made(t, x.room)
		r.Force([]byte(x.there))
		if n := r.Write([]byte(x.b)); n != x.want {
			t.Errorf("P5.1: of room %d, with %q: Write(%q) is %d", x.room, x.there, x.b, n)
		}
		stands(t, fmt.Sprintf("Write(%q) behind %q", x.b, x.there), r, x.room, x.wantTogether)
	}
	r := made(t, 3)
	if n := r.Write(nil); n != 0 {
		t.Error("P5.1: Write of nil is", n)
	}
	stands(t, "Write of nil", r, 3, "")
}

func TestWriteFillsTheRoom(t *testing.T) {
	for _, room := range []int{0, 1, 2, 255, 256, api.MaxRoom - 1, api.MaxRoom} {
		for _, n := range []int{room - 1, room, room + 1, 2 * room, 1 << 20} {
			if n < 0 {
				continue
			}
			r := made(t, room)
			if got := r.Write(rising(7, n)); got != min(n, room) {
				t.Errorf("P5.1: of room %d: Write of %d is %d", room, n, got)
			}
			stands(t, fmt.Sprintf("Write of %d", n), r, room, string(rising(7, min(n, room))))
		}
		r := made(t, room)
		for i := range room {
			if n := r.Write(rising(i, 1)); n != 1 {
				t.Fatalf("P5.1: of room %d: Write of byte %d is %d", room, i, n)
			}
		}
		if n := r.Write([]byte{1}); n != 0 {
			t.Errorf("P5.1: of room %d, full: Write is %d", room, n)
		}
		stands(t, "one by one", r, room, string(rising(0, room)))
	}
}

func TestForce(t *testing.T) {
	for _, room := range []int{0, 1, 3, 100, api.MaxRoom} {
		r, want := made(t, room), ""
		r.Force(nil)
		stands(t, "Force of nil", r, room, "")
		for _, n := range []int{0, 1, 2, 3, 0, 96, 1, 4096, 100000} {
			b := rising(len(want), n)
			r.Force(b)
			want += string(b)
			stands(t, fmt.Sprintf("Force of %d", n), r, room, want)
		}
	}
}

func TestFreeAgainWhenFewer(t *testing.T) {
	r := made(t, 3)
	r.Force([]byte("abcdefg"))
	for i, x := range []struct {
		free int
		want string
	}{{0, "abcdefg"}, {0, "bcdefg"}, {0, "cdefg"}, {0, "defg"}, {0, "efg"}, {1, "fg"}, {2, "g"}, {3, ""}} {
		if r.Free() != x.free {
			t.Errorf("P5.1: of room 3, with %q: Free is %d", x.want, r.Free())
		}
		stands(t, fmt.Sprint("dropped were ", i), r, 3, x.want)
		r.Drop(1)
	}
}

// P5.2

func TestExample(t *testing.T) {
	r := made(t, 3)
	if n := r.Write([]byte("abcd")); n != 3 {
		t.Error("P5.1: Write(abcd) is", n)
	}
	if b := r.Read(2); string(b) != "ab" {
		t.Errorf("P5.2: Read(2) is %q", b)
	}
	if n := r.Write([]byte("ef")); n != 2 {
		t.Error("P5.1: Write(ef) is", n)
	}
	if b := r.Peek(9); string(b) != "cef" {
		t.Errorf("P5.2: Peek(9) is %q", b)
	}
}

// takenFrom is how many of the bytes there n takes.
func takenFrom(there, n int) int {
	switch {
	case n < 0:
		return 0
	case n > there:
		return there
	}
	return n
}

// rings are rings of room 5 that have these bytes, each come to them on another way.
func rings(t *testing.T, want string) []*Ring {
	var l []*Ring
	for ahead := range 20 {
		r := made(t, 5)
		r.Force(append(rising(100, ahead), want...))
		r.Drop(ahead)
		s := made(t, 5)
		s.Force(append(rising(100, ahead), want...))
		for range ahead {
			s.Read(1)
		}
		l = append(l, r, s, r.Copy(), s.Copy())
	}
	return l
}

func TestTaking(t *testing.T) {
	for _, want := range []string{"", "a", "ab", "abcde", "abcdefgh", "\x00\x00\xff\x00"} {
		for _, n := range counts(len(want)) {
			taken := takenFrom(len(want), n)
			for _, r := range rings(t, want) {
				stands(t, "made", r, 5, want)
				what := fmt.Sprintf("(%d) of %q", n, want)
				if b := r.Peek(n); string(b) != want[:taken] {
					t.Errorf("P5.2: Peek%s is %q", what, b)
				}
				stands(t, "Peek"+what, r, 5, want)
				read, dropped := r.Copy(), r.Copy()
				if b := read.Read(n); string(b) != want[:taken] {
					t.Errorf("P5.2: Read%s is %q", what, b)
				}
				stands(t, "Read"+what, read, 5, want[taken:])
				if got := dropped.Drop(n); got != taken {
					t.Errorf("P5.2: Drop%s is %d", what, got)
				}
				stands(t, "Drop"+what, dropped, 5, want[taken:])
				if got := r.Read(n); string(got) != want[:taken] {
					t.Errorf("P5.2: Read%s is %q", what, got)
				}
				stands(t, "Read"+what, r, 5, want[taken:])
			}
		}
	}
}

func TestClear(t *testing.T) {
	for _, want := range []string{"", "a", "abcde", "abcdefgh"} {
		for _, r := range rings(t, want) {
			if n := r.Clear(); n != len(want) {
				t.Errorf("P5.2: Clear of %q is %d", want, n)
			}
			stands(t, "Clear", r, 5, "")
			if n, b := r.Clear(), r.Read(9); n != 0 || len(b) != 0 {
				t.Errorf("P5.2: behind Clear: %d, %q", n, b)
			}
			if n := r.Write([]byte("uvwxyz")); n != 5 {
				t.Error("P5.2: Write behind Clear is", n)
			}
			stands(t, "Write behind Clear", r, 5, "uvwxy")
		}
	}
}

func TestCopy(t *testing.T) {
	for _, want := range []string{"", "a", "abc", "abcde", "abcdefgh"} {
		for _, r := range rings(t, want) {
			c := r.Copy()
			if c == r {
				t.Fatal("P5.2: the copy is the ring itself")
			}
			stands(t, "the copy", c, 5, want)
			c.Drop(1)
			c.Force([]byte("xy"))
			stands(t, "the ring, its copy changed", r, 5, want)
			r.Clear()
			r.Force([]byte("123456789"))
			stands(t, "the copy, its ring changed", c, 5, want[min(1, len(want)):]+"xy")
			if n := c.Clear(); n != max(0, len(want)-1)+2 {
				t.Error("P5.2: the copy's Clear is", n)
			}
			stands(t, "the ring, its copy cleared", r, 5, "123456789")
		}
	}
}

func TestCopiesShareNothing(t *testing.T) {
	r := made(t, 100)
	r.Force(rising(0, 50))
	r.Drop(10)
	first, second := r.Copy(), r.Copy()
	r.Write([]byte("r"))
	first.Write([]byte("f"))
	second.Write([]byte("s"))
	there := string(rising(10, 40))
	stands(t, "the ring", r, 100, there+"r")
	stands(t, "the first copy", first, 100, there+"f")
	stands(t, "the second copy", second, 100, there+"s")
}

// P5.3

// both is a ring, and beside it what it is to have by the words.
type both struct {
	room int
	r    *Ring
	row  []byte
	next int // the byte that is put there next
}

// step does one thing to both, and complains if they tell different ones.
func (x *both) step(t *testing.T, kind string, n int) {
	t.Helper()
	taken := takenFrom(len(x.row), n)
	first := x.row[:taken]
	told, want := "", ""
	switch kind {
	case "write":
		fits := takenFrom(max(0, x.room-len(x.row)), n)
		b := rising(x.next, n)
		told, want = fmt.Sprint(x.r.Write(b)), fmt.Sprint(fits)
		x.row, x.next = append(x.row, b[:fits]...), x.next+fits
	case "force":
		b := rising(x.next, n)
		x.r.Force(b)
		x.row, x.next = append(x.row, b...), x.next+n
	case "peek":
		told, want = string(x.r.Peek(n)), string(first)
	case "read":
		told, want = string(x.r.Read(n)), string(first)
		x.row = x.row[taken:]
	case "drop":
		told, want = fmt.Sprint(x.r.Drop(n)), fmt.Sprint(taken)
		x.row = x.row[taken:]
	case "clear":
		told, want = fmt.Sprint(x.r.Clear()), fmt.Sprint(len(x.row))
		x.row = nil
	case "copy":
		x.r = x.r.Copy()
	}
	if told != want {
		t.Fatalf("P5.3: of room %d: %s %d tells %q, not %q", x.room, kind, n, told, want)
	}
	stands(t, kind, x.r, x.room, string(x.row))
}

// thing is one that may be done.
type thing struct {
	kind string
	n    int
}

// things are those that differ, of a small ring.
func things() []thing {
	l := []thing{{"clear", 0}, {"copy", 0}}
	for n := range 4 {
		l = append(l, thing{"write", n + 1}, thing{"force", n}, thing{"read", n}, thing{"drop", n + 1})
	}
	return l
}

func TestAllOfFourThings(t *testing.T) {
	l := things()
	for room := range 4 {
		for a := range l {
			for b := range l {
				for c := range l {
					for d := range l {
						x := &both{room: room, r: made(t, room)}
						for _, i := range []int{a, b, c, d} {
							x.step(t, l[i].kind, l[i].n)
						}
					}
				}
			}
		}
	}
}

func TestThingsByChance(t *testing.T) {
	chance := rand.New(rand.NewSource(51))
	kinds := []string{"write", "write", "write", "force", "peek", "read", "read", "read", "drop", "copy"}
	for _, room := range []int{0, 1, 2, 3, 5, 8, 64, 100, 1000, api.MaxRoom} {
		for range 20 {
			x := &both{room: room, r: made(t, room)}
			for range 300 {
				kind := kinds[chance.Intn(len(kinds))]
				if chance.Intn(50) == 0 {
					kind = "clear"
				}
				x.step(t, kind, chance.Intn(2+chance.Intn(room+2)))
			}
		}
	}
}

func TestAllIsReadInOrder(t *testing.T) {
	const all = 1 << 20
	for _, most := range []int{1, 7, 4096, all} {
		r := made(t, 10)
		in := rising(0, all)
		for i := 0; i < all; i += 1 << 16 {
			r.Force(in[i : i+1<<16])
		}
		var out []byte
		for r.Len() > 0 {
			out = append(out, r.Read(most)...)
			if r.Len()+len(out) != all {
				t.Fatalf("P5.3: read were %d, and %d are there, of %d", len(out), r.Len(), all)
			}
		}
		if !bytes.Equal(in, out) {
			t.Errorf("P5.3: what was read by %d is not what was put there", most)
		}
	}
}

func TestStreamThroughASmallRoom(t *testing.T) {
	chance := rand.New(rand.NewSource(52))
	for room := 1; room < 20; room++ {
		r := made(t, room)
		in := rising(0, 5000)
		left := in
		var out []byte
		for len(left)+r.Len() > 0 {
			left = left[r.Write(left[:min(len(left), chance.Intn(30))]):]
			out = append(out, r.Read(chance.Intn(30))...)
		}
		if !bytes.Equal(in, out) {
			t.Errorf("P5.3: of room %d: what was read is not what was written", room)
		}
	}
}

// R5, R6

func TestGivenStaysAsItWas(t *testing.T) {
	whole := rising(0, 60)
	for n := range whole {
		r := made(t, 30)
		r.Write(whole[:n])
		r.Force(whole[:n])
		r.Write(whole[n:])
		r.Force([]byte("and more"))
		r.Drop(n)
		r.Clear()
		r.Force([]byte("and more"))
	}
	if !bytes.Equal(whole, rising(0, 60)) {
		t.Errorf("R5: what was given became %x", whole)
	}
}

func TestWhatIsWrittenLaterIsNotTold(t *testing.T) {
	r := made(t, 9)
	b, c := []byte("abc"), []byte("defg")
	r.Write(b)
	clear(b)
	r.Force(c)
	clear(c)
	stands(t, "what was given is cleared", r, 9, "abcdefg")
}

func TestAnswersAreTheCallers(t *testing.T) {
	r := made(t, 9)
	r.Force([]byte("abcdefgh"))
	peeked, read := r.Peek(4), r.Read(2)
	for _, told := range [][]byte{r.Peek(3), r.Read(1), r.Peek(9), r.Peek(0), r.Peek(-1), r.Read(0)} {
		clear(told[:cap(told)])
	}
	stands(t, "answers are cleared", r, 9, "defgh")
	r.Drop(3)
	r.Force([]byte("uvwxyz"))
	r.Clear()
	if string(peeked) != "abcd" || string(read) != "ab" {
		t.Errorf("R6: answers became %q, %q", peeked, read)
	}
	all := made(t, 9)
	all.Force([]byte("abcd"))
	whole := all.Read(4)
	all.Force([]byte("wxyz"))
	if string(whole) != "abcd" {
		t.Errorf("R6: an answer became %q", whole)
	}
}

// TestNothingIsKeptOfWhatIsGone: a row has places that no call tells; they are to be empty, and not many.
func TestNothingIsKeptOfWhatIsGone(t *testing.T) {
	chance := rand.New(rand.NewSource(53))
	r := made(t, 50)
	for range 3000 {
		r.Write(bytes.Repeat([]byte{0xff}, chance.Intn(40)))
		r.Drop(chance.Intn(40))
		if chance.Intn(20) == 0 {
			r.Clear()
		}
		kept := bytes.Count(r.row[:cap(r.row)], []byte{0xff})
		if kept != r.Len() {
			t.Fatalf("there are %d bytes, and %d are kept", r.Len(), kept)
		}
		if len(r.row) > 2*r.room {
			t.Fatalf("the row has %d places, for a room of %d", len(r.row), r.room)
		}
	}
}
