package crc

import (
	"bytes"
	"hash/crc32"
	"math/bits"
	"math/rand"
	"slices"
	"strings"
	"testing"
)

// texts has nothing, one byte of each kind, noughts and full bytes, and longer ones, the same at each run.
func texts() [][]byte {
	l := [][]byte{nil, {}, []byte("abc"), []byte("123456789"), []byte("message digest"),
		bytes.Repeat([]byte{0}, 33), bytes.Repeat([]byte{0xff}, 33), []byte(strings.Repeat("chicane ", 600))}
	for c := range 256 {
		l = append(l, []byte{byte(c)})
	}
	chance := rand.New(rand.NewSource(3))
	for n := 2; n < 70; n++ {
		l = append(l, chanced(chance, n))
	}
	return append(l, chanced(chance, 4095), chanced(chance, 4096), chanced(chance, 1<<20))
}

// chanced is n bytes by chance.
func chanced(chance *rand.Rand, n int) []byte {
	b := make([]byte, n)
	chance.Read(b)
	return b
}

// short is what a message shows of b.
func short(b []byte) []byte { return b[:min(len(b), 40)] }

// byWords is More by the words of P3.1.
func byWords(sum uint32, b []byte) uint32 {
	x := sum ^ 0xffffffff
	for _, c := range b {
		x ^= uint32(c)
		for range 8 {
			half := x / 2
			if x%2 == 1 {
				half ^= 0xedb88320
			}
			x = half
		}
	}
	return x ^ 0xffffffff
}

// numbers has the edges of 32 bits, and each single bit.
func numbers() []uint32 {
	l := []uint32{0, 3, 0xedb88320, 0xcbf43926, 0x12345678, 0x7fffffff, 0xfffffffe, 0xffffffff}
	for i := range 32 {
		l = append(l, 1<<i)
	}
	return l
}

// P3.1

func TestSum(t *testing.T) {
	for s, want := range map[string]uint32{
		"": 0, "a": 0xe8b7be43, "abc": 0x352441c2, "123456789": 0xcbf43926, "message digest": 0x20159d7f,
		"\x00": 0xd202ef8d, "\x00\x00\x00\x00": 0x2144df1c, "\xff\xff\xff\xff": 0xffffffff,
	} {
		if got := Sum([]byte(s)); got != want {
			t.Errorf("P3.1: Sum(%q) is %x, not %x", s, got, want)
		}
	}
	for _, b := range texts() {
		if got, want := Sum(b), crc32.ChecksumIEEE(b); got != want {
			t.Errorf("P3.1: Sum of %d bytes, %x.., is %x, not %x", len(b), short(b), got, want)
		}
	}
}

func TestMore(t *testing.T) {
	for _, sum := range numbers() {
		for _, b := range texts() {
			if len(b) > 5000 {
				continue
			}
			if got, want := More(sum, b), byWords(sum, b); got != want {
				t.Errorf("P3.1: More(%x, %x..) is %x, not %x", sum, short(b), got, want)
			}
		}
	}
}

func TestMoreOfNothing(t *testing.T) {
	for _, sum := range numbers() {
		if a, b := More(sum, nil), More(sum, []byte{}); a != sum || b != sum {
			t.Errorf("P3.1: More(%x, nothing) is %x, %x", sum, a, b)
		}
	}
}

func TestMoreGoesOn(t *testing.T) {
	for _, b := range texts() {
		if len(b) > 100 {
			continue
		}
		for cut := range len(b) + 1 {
			if got, want := More(Sum(b[:cut]), b[cut:]), crc32.ChecksumIEEE(b); got != want {
				t.Errorf("P3.1: More of %x, and %x behind it, is %x, not %x", b[:cut], b[cut:], got, want)
			}
		}
	}
}

func TestParts(t *testing.T) {
	one := func(s ...string) [][]byte {
		var l [][]byte
		for _, part := range s {
			l = append(l, []byte(part))
		}
		return l
	}
	for _, l := range [][][]byte{
		nil, {}, {nil}, {{}}, {nil, {}, nil}, one("abc"), one("", "abc", ""), one("1", "", "23456", "789"),
		one("789", "23456", "1"), one("\x00", "\x00"), one(strings.Split("123456789", "")...), texts(),
	} {
		if got, want := Parts(l...), crc32.ChecksumIEEE(bytes.Join(l, nil)); got != want {
			t.Errorf("P3.1: Parts of %d is %x, not %x", len(l), got, want)
		}
	}
	if got := Parts(); got != 0 {
		t.Errorf("P3.1: Parts of none is %x", got)
	}
	if Parts(one("1", "2")...) == Parts(one("2", "1")...) {
		t.Error("P3.1: Parts does not hang on the order")
	}
}

// P3.2

func TestSeal(t *testing.T) {
	for s, want := range map[string]string{
		"": "\x00\x00\x00\x00", "a": "a\x43\xbe\xb7\xe8", "123456789": "123456789\x26\x39\xf4\xcb", "\x00": "\x00\x8d\xef\x02\xd2",
	} {
		if got := Seal([]byte(s)); string(got) != want {
			t.Errorf("P3.2: Seal(%q) is %q, not %q", s, got, want)
		}
	}
	for _, b := range texts() {
		sum := crc32.ChecksumIEEE(b)
		want := append(bytes.Clone(b), byte(sum), byte(sum>>8), byte(sum>>16), byte(sum>>24))
		if got := Seal(b); !bytes.Equal(got, want) {
			t.Errorf("P3.2: Seal of %d bytes, %x.., is %d bytes, the last ones %x, not %x", len(b), short(b), len(got), got[max(0, len(got)-4):], want[len(b):])
		}
	}
}

func TestOpenOfTheSealed(t *testing.T) {
	for s, want := range map[string]string{
		"\x00\x00\x00\x00": "", "a\x43\xbe\xb7\xe8": "a", "123456789\x26\x39\xf4\xcb": "123456789", "\xff\xff\xff\xff\xff\xff\xff\xff": "\xff\xff\xff\xff",
	} {
		if got, is := Open([]byte(s)); !is || string(got) != want {
			t.Errorf("P3.2: Open(%q) is %q, %v", s, got, is)
		}
	}
}

// refused complains if b is opened, or something is told of it.
func refused(t *testing.T, promise string, b []byte) {
	t.Helper()
	if got, is := Open(b); is || len(got) != 0 {
		t.Errorf("%s: Open of %d bytes, %x.., is %x.., %v", promise, len(b), short(b), short(got), is)
	}
}

func TestOpenOfTheShort(t *testing.T) {
	refused(t, "P3.2", nil)
	for n := range 4 {
		for _, c := range []byte{0, 1, 0xff} {
			refused(t, "P3.2", bytes.Repeat([]byte{c}, n))
		}
	}
	for _, b := range texts()[:20] {
		refused(t, "P3.2", Seal(b)[:3])
	}
}

func TestOpenOfAnotherSum(t *testing.T) {
	b := []byte("123456789")
	behind := []byte{0x26, 0x39, 0xf4, 0xcb}
	highestFirst := slices.Clone(behind)
	slices.Reverse(highestFirst)
	for _, other := range [][]byte{
		nil, {0, 0, 0, 0}, {0xff, 0xff, 0xff, 0xff}, highestFirst, {0x26, 0x39, 0xf4}, {0x39, 0xf4, 0xcb}, {0x26, 0x39, 0xf4, 0xcb, 0},
		{0x26, 0x39, 0xf4, 0xca}, {0x27, 0x39, 0xf4, 0xcb}, {^behind[0], ^behind[1], ^behind[2], ^behind[3]},
	} {
		refused(t, "P3.2", slices.Concat(b, other))
	}
	refused(t, "P3.2", slices.Concat(behind, b))
	refused(t, "P3.2", behind)
	refused(t, "P3.2", b)
}

func TestOpenOfEachPair(t *testing.T) {
	for c := range 256 {
		right := crc32.ChecksumIEEE([]byte{byte(c)})
		for _, sum := range append(numbers(), right, right+1, right-1, bits.ReverseBytes32(right), bits.Reverse32(right)) {
			b := []byte{byte(c), byte(sum), byte(sum >> 8), byte(sum >> 16), byte(sum >> 24)}
			got, is := Open(b)
			if is != (sum == right) || is && !bytes.Equal(got, b[:1]) || !is && len(got) != 0 {
				t.Errorf("P3.2: Open(%x) is %x, %v", b, got, is)
			}
		}
	}
}

// The polynomial has 33 bits: turned, they make one sealed thing of another, and that is opened.
func TestOpenOfAnotherSealed(t *testing.T) {
	for _, b := range texts() {
		if len(b) == 0 || len(b) > 100 {
			continue
		}
		for at := range 8 * len(b) {
			sealed := Seal(b)
			turn(sealed, at, 1)
			turn(sealed, at+1, 0xedb88320)
			got, is := Open(sealed)
			if !is || !bytes.Equal(got, sealed[:len(b)]) || !bytes.Equal(Seal(got), sealed) {
				t.Errorf("P3.2: %x is a sealed thing, but Open is %x, %v", sealed, got, is)
			}
		}
	}
}

// R5, R6

func TestGivenStaysAsItWas(t *testing.T) {
	whole := []byte("123456789\x26\x39\xf4\xcbbehind")
	kept := bytes.Clone(whole)
	parts := [][]byte{whole[:3], nil, whole[3:9]}
	Sum(whole[:9])
	More(7, whole[:9])
	Parts(parts...)
	Seal(whole[:3])
	Seal(whole[:9])
	Open(whole[:13])
	Open(whole[:12])
	if !bytes.Equal(whole, kept) {
		t.Errorf("R5: what was given became %q", whole)
	}
	if len(parts) != 3 || string(parts[0]) != "123" || parts[1] != nil || string(parts[2]) != "456789" {
		t.Errorf("R5: the parts became %q", parts)
	}
}

func TestAnswersAreTheCallers(t *testing.T) {
	b := []byte("123456789")
	sealed := Seal(b)
	opened, _ := Open(sealed)
	again := Seal(b)
	clear(opened[:cap(opened)])
	if string(sealed) != "123456789\x26\x39\xf4\xcb" {
		t.Errorf("R6: what is written into the opened changes the sealed: %q", sealed)
	}
	clear(sealed[:cap(sealed)])
	if string(b) != "123456789" || string(again) != "123456789\x26\x39\xf4\xcb" {
		t.Errorf("R6: what is written into the sealed changes %q, %q", b, again)
	}
	opened, _ = Open(again)
	clear(again)
	if string(opened) != "123456789" {
		t.Errorf("R6: what is written into the sealed changes the opened: %q", opened)
	}
}

// P3.3

func TestSealedIsOpened(t *testing.T) {
	for _, b := range texts() {
		if got, is := Open(Seal(b)); !is || !bytes.Equal(got, b) {
			t.Errorf("P3.3: Open(Seal(%x..)), of %d bytes, is %x.., %v", short(b), len(b), short(got), is)
		}
		twice, is := Open(Seal(Seal(b)))
		if !is || !bytes.Equal(twice, Seal(b)) {
			t.Errorf("P3.3: what was sealed twice, of %d bytes, is opened to %x.., %v", len(b), short(twice), is)
		}
	}
}

// turn turns the bits of the mask, its lowest one at the bit at of b; those behind b's end are let go.
func turn(b []byte, at int, mask uint32) {
	for i := at; mask != 0 && i < 8*len(b); i++ {
		if mask&1 == 1 {
			b[i/8] ^= 1 << (i % 8)
		}
		mask >>= 1
	}
}

// masks has all of up to eight bits, all pairs in 32, all full runs, and some by chance, with both ends turned.
func masks() []uint32 {
	var l []uint32
	for m := uint32(1); m < 256; m++ {
		l = append(l, m)
	}
	for i := range 32 {
		l = append(l, 1|1<<i, 1<<i|(1<<i-1), 0x80000000|1<<i)
	}
	chance := rand.New(rand.NewSource(33))
	for range 300 {
		l = append(l, chance.Uint32()|1, chance.Uint32()|1|1<<31)
	}
	return append(l, 0xedb88320, 0xdb710641, 0x04c11db7, 0xaaaaaaaa, 0x55555555, 0xffffffff)
}

func TestTurnedIsNotOpened(t *testing.T) {
	for _, s := range []string{"", "a", "abc", "\x00\x00\x00\x00\x00", "123456789", "\xff\xff\xff\xff"} {
		sealed := Seal([]byte(s))
		for at := range 8 * len(sealed) {
			for _, mask := range masks() {
				turned := bytes.Clone(sealed)
				turn(turned, at, mask)
				if !bytes.Equal(turned, sealed) {
					refused(t, "P3.3", turned)
				}
			}
		}
	}
}

func TestTurnedInTheLongIsNotOpened(t *testing.T) {
	chance := rand.New(rand.NewSource(34))
	sealed := Seal(chanced(chance, 4096))
	for range 2000 {
		at, mask := chance.Intn(8*len(sealed)), chance.Uint32()|1
		turn(sealed, at, mask)
		refused(t, "P3.3", sealed)
		turn(sealed, at, mask)
	}
	if _, is := Open(sealed); !is {
		t.Error("P3.3: turned back, it is not opened")
	}
}

// wrong is how far the sum behind b lies from that of what is ahead of it: 0, if b is sealed.
func wrong(b []byte) uint32 {
	end := len(b) - 4
	behind := uint32(b[end]) | uint32(b[end+1])<<8 | uint32(b[end+2])<<16 | uint32(b[end+3])<<24
	return Sum(b[:end]) ^ behind
}

// What many bits do is what each does, put together by xor. So if no choice among 32 bits comes to nothing, none of their 2^32 - 1 ways to be turned is opened.
func TestNoTurnOf32ComesToNothing(t *testing.T) {
	for _, n := range []int{0, 1, 2, 5, 60} {
		sealed := Seal(bytes.Repeat([]byte{0x5a}, n))
		for first := 0; first+32 <= 8*len(sealed); first++ {
			var byHighest [33]uint32 // what was seen, told apart by its highest bit
			for at := first; at < first+32; at++ {
				turn(sealed, at, 1)
				left := wrong(sealed)
				turn(sealed, at, 1)
				for left != 0 && byHighest[bits.Len32(left)] != 0 {
					left ^= byHighest[bits.Len32(left)]
				}
				if left == 0 {
					t.Fatalf("P3.3: of %d sealed bytes some of the bits from %d to %d can be turned, and it is opened", n, first, at)
				}
				byHighest[bits.Len32(left)] = left
			}
		}
	}
}

// What TestNoTurnOf32ComesToNothing stands on.
func TestTurnsArePutTogetherByXor(t *testing.T) {
	chance := rand.New(rand.NewSource(35))
	for range 2000 {
		sealed := Seal(chanced(chance, chance.Intn(64)))
		a, b := chance.Intn(8*len(sealed)), chance.Intn(8*len(sealed))
		turn(sealed, a, 1)
		ofA := wrong(sealed)
		turn(sealed, b, 1)
		ofBoth := wrong(sealed)
		turn(sealed, a, 1)
		if ofB := wrong(sealed); ofBoth != ofA^ofB {
			t.Fatalf("P3.3: the bits %d and %d, turned: %x, alone %x and %x", a, b, ofBoth, ofA, ofB)
		}
	}
}
