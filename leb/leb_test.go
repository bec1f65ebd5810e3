package leb

import (
	"bytes"
	"encoding/binary"
	"fmt"
	"math"
	"math/rand"
	"slices"
	"strings"
	"testing"
)

// numbers has all small ones, and those about each power of two.
func numbers() []int {
	var l []int
	for n := range 70000 {
		l = append(l, n)
	}
	for i := range 63 {
		for d := -2; d <= 2; d++ {
			if n := 1<<i + d; n >= 0 {
				l = append(l, n)
			}
		}
	}
	return append(l, math.MaxInt-2, math.MaxInt-1, math.MaxInt)
}

// byWords is a number's bytes by the chapter's words.
func byWords(n int) []byte {
	var l []byte
	for {
		l = append(l, byte(n%128))
		n /= 128
		if n == 0 {
			break
		}
	}
	for i := range len(l) - 1 {
		l[i] += 128
	}
	return l
}

// got is Get by the words of P4.1: the library's number, if it fits, and its bytes, as few as can be, are those.
func got(b []byte) (int, int) {
	n, long := binary.Uvarint(b)
	if long < 1 || n > math.MaxInt || !bytes.Equal(byWords(int(n)), b[:long]) {
		return 0, 0
	}
	return int(n), long
}

// gotText is GetStr likewise.
func gotText(b []byte, most int) (string, int) {
	n, head := got(b)
	if head == 0 || n > most || n > len(b[head:]) {
		return "", 0
	}
	return string(b[head : head+n]), head + n
}

// texts has those whose lengths' bytes become more, and ones with bytes of each kind.
func texts() []string {
	l := []string{"", "a", "ab", "\x00", "\x80", "\xff\xff", "\x00\x00\x00", "é", "two words", "\x02ab"}
	for _, n := range []int{126, 127, 128, 129, 300, 16383, 16384, 65536} {
		l = append(l, strings.Repeat("x", n), strings.Repeat("\x80", n))
	}
	return l
}

// behinds is what may stand behind.
func behinds() []string {
	return []string{"", "\x00", "\x01", "\x7f", "\x80", "\x80\x00", "\xff", "\xff\xff\xff\xff\xff\xff\xff\xff\xff\xff\xff", "abc"}
}

// odd is bytes by chance, most of which end a number soon, or late, or never.
func odd(chance *rand.Rand, n int) []byte {
	kinds := []byte{0, 0, 1, 2, 3, 0x7f, 0x80, 0x80, 0x81, 0xff}
	b := make([]byte, n)
	for i := range b {
		b[i] = kinds[chance.Intn(len(kinds))]
		if chance.Intn(3) == 0 {
			b[i] = byte(chance.Intn(256))
		}
	}
	return b
}

// short is what a message shows of b.
func short[T []byte | string](b T) T { return b[:min(len(b), 30)] }

// P4.1

func TestPut(t *testing.T) {
	for n, want := range map[int]string{
		0: "\x00", 1: "\x01", 127: "\x7f", 128: "\x80\x01", 129: "\x81\x01", 255: "\xff\x01", 256: "\x80\x02", 300: "\xac\x02",
		16383: "\xff\x7f", 16384: "\x80\x80\x01", 1 << 40: "\x80\x80\x80\x80\x80\x20",
		1 << 56: "\x80\x80\x80\x80\x80\x80\x80\x80\x01", math.MaxInt: "\xff\xff\xff\xff\xff\xff\xff\xff\x7f",
	} {
		for _, ahead := range append(behinds(), strings.Repeat("y", 1000)) {
			if s := string(Put([]byte(ahead), n)); s != ahead+want {
				t.Errorf("P4.1: Put(%q.., %d) is %q..", short(ahead), n, short(s))
			}
		}
	}
	for _, n := range numbers() {
		want := byWords(n)
		if b := Put(nil, n); !bytes.Equal(b, want) || !bytes.Equal(b, binary.AppendUvarint(nil, uint64(n))) {
			t.Errorf("P4.1: Put(nothing, %d) is %x, not %x", n, b, want)
		}
	}
}

func TestPutOfBelowNothing(t *testing.T) {
	for _, n := range []int{-1, -2, -127, -128, -129, -300, -1 << 40, math.MinInt + 1, math.MinInt} {
		for _, ahead := range behinds() {
			if s := string(Put([]byte(ahead), n)); s != ahead {
				t.Errorf("P4.1: Put(%q, %d) is %q", ahead, n, s)
			}
		}
		if b := Put(nil, n); len(b) != 0 {
			t.Errorf("P4.1: Put(nothing, %d) is %x", n, b)
		}
	}
}

func TestStr(t *testing.T) {
	for s, want := range map[string]string{"": "\x00", "ab": "\x02ab", "\x00": "\x01\x00", "\x80\xff": "\x02\x80\xff", "é": "\x02\xc3\xa9"} {
		if b := Str(nil, s); string(b) != want {
			t.Errorf("P4.1: Str(nothing, %q) is %q", s, b)
		}
	}
	for _, s := range texts() {
		for _, ahead := range behinds() {
			want := ahead + string(byWords(len(s))) + s
			if b := Str([]byte(ahead), s); string(b) != want {
				t.Errorf("P4.1: Str(%q, %q..), of %d bytes, is %q..", ahead, short(s), len(s), short(b))
			}
		}
	}
}

func TestGet(t *testing.T) {
	for _, x := range []struct {
		s       string
		n, long int
	}{
		{"\x00", 0, 1}, {"\x00\x00", 0, 1}, {"\x05\x80", 5, 1}, {"\x7f", 127, 1}, {"\x80\x01", 128, 2}, {"\xac\x02", 300, 2}, {"\xac\x02\x80\x00", 300, 2},
		{"\x80\x80\x01", 16384, 3}, {"\xff\xff\xff\xff\xff\xff\xff\xff\x7f", math.MaxInt, 9}, {"\x80\x80\x80\x80\x80\x80\x80\x80\x01z", 1 << 56, 9},
	} {
		if n, long := Get([]byte(x.s)); n != x.n || long != x.long {
			t.Errorf("P4.1: Get(%q) is %d, %d", x.s, n, long)
		}
	}
}

func TestGetOfNone(t *testing.T) {
	l := []string{"", "\xac", "\x80\x00", "\xff\x00", "\xff\x00\x01", "\x81\x80\x00", "\x80\x80\x80",
		"\x80\x80\x80\x80\x80\x80\x80\x80\x00", "\xff\xff\xff\xff\xff\xff\xff\xff\x00", "\xff\xff\xff\xff\xff\xff\xff\xff\xff\x01",
		"\xff\xff\xff\xff\xff\xff\xff\xff\xff\x00", "\x80\x80\x80\x80\x80\x80\x80\x80\x80\x01", "\x81\x80\x80\x80\x80\x80\x80\x80\x80\x80\x01"}
	for n := range 80 {
		l = append(l, strings.Repeat("\x80", n), strings.Repeat("\xff", n))
		if n > 0 {
			l = append(l, strings.Repeat("\x80", n)+"\x00")
		}
		if n > 8 {
			l = append(l, strings.Repeat("\x80", n)+"\x01", strings.Repeat("\xff", n)+"\x7f")
		}
	}
	for _, s := range l {
		if n, long := Get([]byte(s)); n != 0 || long != 0 {
			t.Errorf("P4.1: Get(%q) is %d, %d", s, n, long)
		}
	}
	if n, long := Get(nil); n != 0 || long != 0 {
		t.Errorf("P4.1: Get(nothing) is %d, %d", n, long)
	}
}

func TestGetOfEachThree(t *testing.T) {
	last := []byte{0, 1, 0x40, 0x7f, 0x80, 0x81, 0xff}
	for a := range 256 {
		for b := range 256 {
			for _, c := range last {
				three := []byte{byte(a), byte(b), c}
				for n := range 4 {
					sameGet(t, three[:n])
				}
			}
		}
	}
}

func TestGetByChance(t *testing.T) {
	chance := rand.New(rand.NewSource(4))
	for range 100000 {
		sameGet(t, odd(chance, chance.Intn(14)))
	}
	for ends := range 256 { // nine bytes, and ten: the longest one, and what is too long
		for _, c := range []byte{0x80, 0x81, 0xff} {
			for n := 7; n < 11; n++ {
				sameGet(t, append(bytes.Repeat([]byte{c}, n), byte(ends)))
				sameGet(t, append(bytes.Repeat([]byte{c}, n), byte(ends), 1))
			}
		}
	}
}

// sameGet complains if Get tells something else than the words.
func sameGet(t *testing.T, b []byte) {
	t.Helper()
	n, long := Get(b)
	if want, wantLong := got(b); n != want || long != wantLong {
		t.Fatalf("P4.1: Get(%x) is %d, %d, not %d, %d", b, n, long, want, wantLong)
	}
}

func TestGetStr(t *testing.T) {
	for _, x := range []struct {
		s    string
		most int
		want string
		long int
	}{
		{"\x02abc", 2, "ab", 3}, {"\x02abc", 3, "ab", 3}, {"\x02abc", math.MaxInt, "ab", 3}, {"\x02ab", 2, "ab", 3}, {"\x02\x80\x00", 9, "\x80\x00", 3},
		{"\x00", 0, "", 1}, {"\x00abc", 0, "", 1}, {"\x00abc", 9, "", 1}, {"\x01a", 1, "a", 2},
		{"\x80\x01" + strings.Repeat("x", 129), 128, strings.Repeat("x", 128), 130},
	} {
		if s, long := GetStr([]byte(x.s), x.most); s != x.want || long != x.long {
			t.Errorf("P4.1: GetStr(%q, %d) is %q, %d", x.s, x.most, s, long)
		}
	}
}

func TestGetStrOfNone(t *testing.T) {
	for _, x := range []struct {
		s    string
		most int
	}{
		{"", 9}, {"", 0}, {"", -1}, {"\x02abc", 1}, {"\x02abc", 0}, {"\x02abc", -1}, {"\x01a", 0}, {"\x00", -1}, {"\x00", math.MinInt},
		{"\x04abc", 9}, {"\x04abc", math.MaxInt}, {"\x01", 9}, {"\x80", 9}, {"\x80\x00", 9}, {"\x82\x00ab", 9}, {"\x80\x01" + strings.Repeat("x", 127), 128},
		{"\x80\x01" + strings.Repeat("x", 128), 127}, {"\xff\xff\xff\xff\xff\xff\xff\xff\x7fab", math.MaxInt}, {"\xfe\xff\xff\xff\xff\xff\xff\xff\x7fab", math.MaxInt},
		{"\x81\x80\x80\x80\x80\x80\x80\x80\x80\x01a", math.MaxInt},
	} {
		if s, long := GetStr([]byte(x.s), x.most); s != "" || long != 0 {
			t.Errorf("P4.1: GetStr(%q.., %d) is %q, %d", short(x.s), x.most, s, long)
		}
	}
}

func TestGetStrByChance(t *testing.T) {
	chance := rand.New(rand.NewSource(41))
	for range 100000 {
		b := odd(chance, chance.Intn(14))
		for _, most := range []int{math.MinInt, -1, 0, 1, 2, 3, 5, 127, 128, math.MaxInt} {
			s, long := GetStr(b, most)
			if want, wantLong := gotText(b, most); s != want || long != wantLong {
				t.Fatalf("P4.1: GetStr(%x, %d) is %q, %d, not %q, %d", b, most, s, long, want, wantLong)
			}
		}
	}
}

// P4.2

// stands complains if the reader is not as it is said.
func stands(t *testing.T, what string, r *Reader, at, left int, bad bool) {
	t.Helper()
	if r.At() != at || r.Left() != left || r.Bad() != bad || r.End() != (!bad && left == 0) {
		t.Errorf("P4.2: %s: At %d, Left %d, Bad %v, End %v; not At %d, Left %d, Bad %v", what, r.At(), r.Left(), r.Bad(), r.End(), at, left, bad)
	}
}

func TestReaderAtFirst(t *testing.T) {
	stands(t, "of nil", New(nil), 0, 0, false)
	stands(t, "of none", New([]byte{}), 0, 0, false)
	stands(t, "of one", New([]byte{0}), 0, 1, false)
	stands(t, "of no number", New([]byte{0x80, 0x80}), 0, 2, false)
}

func TestReaderTakesAll(t *testing.T) {
	b := Put(nil, 300)
	b = Str(b, "ab")
	b = append(b, 255)
	b = Str(b, "")
	b = Put(b, math.MaxInt)
	b = Put(b, 0)
	r := New(b)
	if n := r.Int(300); n != 300 {
		t.Error("P4.2: Int of 300:", n)
	}
	stands(t, "behind 300", r, 2, 15, false)
	if s := r.Str(2); s != "ab" {
		t.Error("P4.2: Str of ab:", s)
	}
	stands(t, "behind ab", r, 5, 12, false)
	if n := r.Byte(255); n != 255 {
		t.Error("P4.2: Byte of 255:", n)
	}
	stands(t, "behind 255", r, 6, 11, false)
	if s := r.Str(0); s != "" {
		t.Error("P4.2: Str of nothing:", s)
	}
	stands(t, "behind nothing", r, 7, 10, false)
	if n := r.Int(math.MaxInt); n != math.MaxInt {
		t.Error("P4.2: Int of the greatest:", n)
	}
	stands(t, "behind the greatest", r, 16, 1, false)
	if n := r.Int(0); n != 0 {
		t.Error("P4.2: Int of 0:", n)
	}
	stands(t, "at the end", r, 17, 0, false)
	if n, s := r.Int(9), r.Str(9); n != 0 || s != "" {
		t.Error("P4.2: behind the end:", n, s)
	}
	stands(t, "asked behind the end", r, 17, 0, true)
}

// part is something that is asked of a reader.
type part struct {
	kind string
	most int
}

// asked is what the reader tells of it.
func asked(r *Reader, p part) string {
	switch p.kind {
	case "int":
		return fmt.Sprint(r.Int(p.most))
	case "byte":
		return fmt.Sprint(r.Byte(p.most))
	}
	return fmt.Sprintf("%q", r.Str(p.most))
}

// zero is what is told of it, if it isn't there.
func zero(p part) string {
	if p.kind == "str" {
		return `""`
	}
	return "0"
}

// byTheWords is the part at the start of rest, and how many bytes it has: 0, if it isn't there.
func byTheWords(rest []byte, p part) (string, int) {
	told, long := zero(p), 0
	switch p.kind {
	case "int":
		if n, l := got(rest); l > 0 && n <= p.most {
			told, long = fmt.Sprint(n), l
		}
	case "byte":
		if len(rest) > 0 && int(rest[0]) <= p.most {
			told, long = fmt.Sprint(rest[0]), 1
		}
	default:
		if s, l := gotText(rest, p.most); l > 0 {
			told, long = fmt.Sprintf("%q", s), l
		}
	}
	return told, long
}

func TestReaderRefuses(t *testing.T) {
	for _, x := range []struct {
		rest string
		p    part
	}{
		{"", part{"int", 9}}, {"", part{"byte", 255}}, {"", part{"str", 9}}, {"", part{"str", 0}},
		{"\x09", part{"int", 8}}, {"\x00", part{"int", -1}}, {"\x00", part{"int", math.MinInt}}, {"\xac\x02", part{"int", 299}},
		{"\x80\x00", part{"int", math.MaxInt}}, {"\x80", part{"int", math.MaxInt}}, {"\xff\xff\xff\xff\xff\xff\xff\xff\x7f", part{"int", math.MaxInt - 1}},
		{"\xff\xff\xff\xff\xff\xff\xff\xff\xff\x01", part{"int", math.MaxInt}},
		{"\x09", part{"byte", 8}}, {"\xff", part{"byte", 254}}, {"\x80", part{"byte", 127}}, {"\x00", part{"byte", -1}}, {"\x00", part{"byte", math.MinInt}},
		{"\x02ab", part{"str", 1}}, {"\x02a", part{"str", 9}}, {"\x00", part{"str", -1}}, {"\x80\x00", part{"str", 9}}, {"\x80", part{"str", 9}},
		{"\xff\xff\xff\xff\xff\xff\xff\xff\x7fab", part{"str", math.MaxInt}},
	} {
		for _, ahead := range []string{"", "\x05", "\x05\x06\x07"} {
			r := New([]byte(ahead + x.rest))
			for range len(ahead) {
				r.Byte(255)
			}
			what := fmt.Sprintf("%v at %d of %q", x.p, len(ahead), ahead+x.rest)
			stands(t, what+", not yet", r, len(ahead), len(x.rest), false)
			if told := asked(r, x.p); told != zero(x.p) {
				t.Errorf("P4.2: %s is %s", what, told)
			}
			stands(t, what, r, len(ahead), len(x.rest), true)
		}
	}
}

func TestReaderStaysBad(t *testing.T) {
	for _, first := range []part{{"int", 2}, {"byte", 2}, {"str", 2}} {
		r := New([]byte("\x03\x03abcd"))
		r.Byte(3)
		asked(r, first)
		for range 3 {
			for _, p := range []part{{"int", 3}, {"byte", 3}, {"str", 3}, {"int", math.MaxInt}, {"byte", 255}, {"str", math.MaxInt}, {"int", -1}} {
				if told := asked(r, p); told != zero(p) {
					t.Errorf("P4.2: of a reader that %v made bad, %v is %s", first, p, told)
				}
				stands(t, "bad", r, 1, 5, true)
			}
		}
	}
}

func TestReaderOfNoneIsBadWhenAsked(t *testing.T) {
	for _, p := range []part{{"int", math.MaxInt}, {"byte", math.MaxInt}, {"str", math.MaxInt}} {
		r := New(nil)
		if told := asked(r, p); told != zero(p) {
			t.Errorf("P4.2: of nothing %v is %s", p, told)
		}
		stands(t, "of nothing", r, 0, 0, true)
	}
}

func TestReaderTakesTheEdges(t *testing.T) {
	for c := range 256 {
		for _, most := range []int{c, c + 1, 255, 256, math.MaxInt} {
			r := New([]byte{byte(c)})
			if n := r.Byte(most); n != c {
				t.Errorf("P4.2: Byte(%d) of %d is %d", most, c, n)
			}
			stands(t, "a byte", r, 1, 0, false)
		}
	}
	for _, n := range numbers()[60000:] {
		b := byWords(n)
		r := New(b)
		if got := r.Int(n); got != n {
			t.Errorf("P4.2: Int(%d) of it is %d", n, got)
		}
		stands(t, "a number", r, len(b), 0, false)
	}
	for _, s := range texts() {
		b := string(byWords(len(s))) + s
		r := New([]byte(b))
		if got := r.Str(len(s)); got != s {
			t.Errorf("P4.2: Str(%d) of it is %q..", len(s), short(got))
		}
		stands(t, "a text", r, len(b), 0, false)
	}
}

func TestReaderByChance(t *testing.T) {
	chance := rand.New(rand.NewSource(42))
	kinds := []string{"int", "byte", "str"}
	mosts := []int{-1, 0, 1, 2, 3, 5, 127, 128, 254, 255, 300, 1 << 40, math.MaxInt, math.MaxInt}
	for range 30000 {
		b := odd(chance, chance.Intn(30))
		r, at, bad := New(b), 0, false
		for range 12 {
			p := part{kinds[chance.Intn(3)], mosts[chance.Intn(len(mosts))]}
			want, long := zero(p), 0
			if !bad {
				want, long = byTheWords(b[at:], p)
				bad = long == 0
				at += long
			}
			if told := asked(r, p); told != want {
				t.Fatalf("P4.2: of %x %v is %s, not %s", b, p, told, want)
			}
			stands(t, fmt.Sprintf("%x", b), r, at, len(b)-at, bad)
		}
	}
}

func TestReadersAreTheirOwn(t *testing.T) {
	b := []byte{1, 2, 3}
	first, second := New(b), New(b)
	first.Byte(9)
	first.Byte(1)
	stands(t, "the first one", first, 1, 2, true)
	stands(t, "the second one", second, 0, 3, false)
	if n := second.Byte(9); n != 1 {
		t.Error("P4.2: the second one's byte is", n)
	}
}

// P4.3

func TestPutIsGot(t *testing.T) {
	for _, n := range numbers() {
		b := Put(nil, n)
		for _, behind := range behinds() {
			if m, long := Get(slices.Concat(b, []byte(behind))); m != n || long != len(b) {
				t.Errorf("P4.3: put was %d, and got, with %q behind it, %d, %d", n, behind, m, long)
			}
		}
	}
	for _, s := range texts() {
		b := Str(nil, s)
		for _, behind := range behinds() {
			for _, most := range []int{len(s), len(s) + 1, math.MaxInt} {
				if got, long := GetStr(slices.Concat(b, []byte(behind)), most); got != s || long != len(b) {
					t.Errorf("P4.3: put was %q.., of %d bytes, and got, with %q behind it, %q.., %d", short(s), len(s), behind, short(got), long)
				}
			}
		}
	}
}

func TestGotIsPut(t *testing.T) {
	chance := rand.New(rand.NewSource(43))
	for range 200000 {
		b := odd(chance, chance.Intn(14))
		if n, long := Get(b); long > 0 && !bytes.Equal(Put(nil, n), b[:long]) {
			t.Fatalf("P4.3: %x are %d's bytes, and so are %x", b[:long], n, Put(nil, n))
		}
		if s, long := GetStr(b, math.MaxInt); long > 0 && !bytes.Equal(Str(nil, s), b[:long]) {
			t.Fatalf("P4.3: %x are %q's bytes, and so are %x", b[:long], s, Str(nil, s))
		}
	}
}

func TestNoBytesAreTwo(t *testing.T) {
	numbersOf, textsOf := map[string]int{}, map[string]string{}
	for _, n := range numbers() {
		b := string(Put(nil, n))
		if m, is := numbersOf[b]; is && m != n {
			t.Errorf("P4.3: %x is %d, and %d", b, n, m)
		}
		numbersOf[b] = n
	}
	for _, s := range texts() {
		b := string(Str(nil, s))
		if other, is := textsOf[b]; is && other != s {
			t.Errorf("P4.3: %x is %q.., and %q..", short(b), short(s), short(other))
		}
		textsOf[b] = s
	}
	for b := range numbersOf {
		for end := range len(b) {
			if n, is := numbersOf[b[:end]]; is {
				t.Errorf("P4.3: %x begins with %d's bytes", b, n)
			}
			if n, long := Get([]byte(b[:end])); n != 0 || long != 0 {
				t.Errorf("P4.3: the first %d bytes of %x are %d, %d", end, b, n, long)
			}
		}
	}
}

func TestAllThatWasPutIsRead(t *testing.T) {
	chance := rand.New(rand.NewSource(44))
	for range 3000 {
		var b []byte
		var parts []part
		var want []string
		for range chance.Intn(20) {
			n := chance.Intn(1 << chance.Intn(63))
			switch chance.Intn(3) {
			case 0:
				b, parts, want = Put(b, n), append(parts, part{"int", n}), append(want, fmt.Sprint(n))
			case 1:
				s := string(odd(chance, n%200))
				b, parts, want = Str(b, s), append(parts, part{"str", len(s)}), append(want, fmt.Sprintf("%q", s))
			default:
				b, parts, want = append(b, byte(n)), append(parts, part{"byte", n % 256}), append(want, fmt.Sprint(n%256))
			}
		}
		r := New(b)
		for i, p := range parts {
			if told := asked(r, p); told != want[i] {
				t.Fatalf("P4.3: put was %s, and read %s", want[i], told)
			}
		}
		stands(t, "behind all", r, len(b), 0, false)
	}
}

// R5, R6

func TestGivenStaysAsItWas(t *testing.T) {
	whole := []byte("\x02ab\xac\x02 and what is behind")
	kept := bytes.Clone(whole)
	for end := range whole {
		Put(whole[:end], 300)
		Put(whole[:end], -1)
		Str(whole[:end], "text")
		Str(whole[:end], "")
		Get(whole[:end])
		GetStr(whole[:end], 9)
		r := New(whole[:end])
		r.Str(9)
		r.Int(300)
		r.Byte(9)
	}
	if !bytes.Equal(whole, kept) {
		t.Errorf("R5: what was given became %q", whole)
	}
}

func TestAnswersAreTheCallers(t *testing.T) {
	b := []byte("\x02ab and what is behind")
	kept := bytes.Clone(b)
	for _, told := range [][]byte{Put(b, 300), Put(b, -1), Str(b, "text"), Str(b, ""), Put(b[:3], 5), Put(b[:3], -1), Str(b[:3], "text"), Str(b[:0], "")} {
		clear(told[:cap(told)])
	}
	if !bytes.Equal(b, kept) {
		t.Errorf("R6: what is written into an answer changes what was given: %q", b)
	}
	first := append(make([]byte, 0, 100), 1)
	second, third := Put(first, 2), Put(first, 3)
	if string(second) != "\x01\x02" || string(third) != "\x01\x03" {
		t.Errorf("R6: two answers share something: %x, %x", second, third)
	}
	second, third = Str(second, "x"), Str(second, "y")
	if string(second) != "\x01\x02\x01x" || string(third) != "\x01\x02\x01y" {
		t.Errorf("R6: two answers share something: %x, %x", second, third)
	}
}

func TestWhatIsWrittenLaterIsNotTold(t *testing.T) {
	b := []byte("\x02ab\x02cd\x07")
	s, _ := GetStr(b, 9)
	r := New(b)
	first := r.Str(9)
	clear(b)
	if second := r.Str(9); s != "ab" || first != "ab" || second != "cd" || r.Byte(7) != 7 {
		t.Errorf("R6: what is written into what was given is told: %q, %q, %q", s, first, second)
	}
	stands(t, "behind all", r, 7, 0, false)
}
