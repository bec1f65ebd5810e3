package toxic

import (
	"fmt"
	"math"
	"math/rand"
	"regexp"
	"strconv"
	"strings"
	"testing"

	"chicane/api"
)

const top = api.MaxTick

// table is the chapter's table of kinds: at each kind's number its word, and how many numbers it has.
var table = map[int]struct {
	word    string
	numbers int
}{
	1: {"latency", 2},
	2: {"bandwidth", 2},
	3: {"slicer", 2},
	4: {"timeout", 1},
	5: {"reset_peer", 1},
	6: {"limit_data", 1},
	7: {"slow_close", 1},
}

// nameForm and toxicForm are the forms of a name, and of a toxic's text.
var (
	nameForm  = regexp.MustCompile(`^[a-z0-9_-]{1,16}$`)
	toxicForm = regexp.MustCompile(`^([^ ]+) ([^ ]+) (up|down) ([^ ]+) ([^ ]+)(?: ([^ ]+))?$`)
)

// someKinds are all of the table, and numbers that are none of it.
func someKinds() []int {
	return []int{math.MinInt, -1 << 32, -8, -7, -1, 0, 1, 2, 3, 4, 5, 6, 7, 8, 9, 255, 256, 257, 1<<32 + 1, 1<<32 + 4, math.MaxInt}
}

// edges are numbers at, and beside, the ends of what a number may be, rising.
func edges() []int {
	return []int{math.MinInt, -top, -1, 0, 1, 2, 4095, 4096, 4097, 1<<32 + 1, top - 1, top, top + 1, 1 << 62, math.MaxInt}
}

// namesThatAre are texts that may be names.
func namesThatAre() []string {
	return []string{
		"a", "z", "0", "9", "_", "-", "lag", "a-b_9", "--", "__", "0-", "r-1", "l_2", "up", "down", "latency", "timeout",
		"abcdefghijklmno", "abcdefghijklmnop", "qrstuvwxyz012345", "6789_-6789_-6789", strings.Repeat("x", 16), strings.Repeat("-", 16),
	}
}

// namesThatArent are texts that may not be names.
func namesThatArent() []string {
	return []string{
		"", " ", "a b", " a", "a ", "a\t", "\ta", "a\n", "\x00", "a\x00", "A", "Z", "Lag", "laG", "a.b", "a/b", "a:b", "a`", "a{",
		"/", ":", "@", "[", "^", "`", "{", ",", ".", "+", "#", "\"a\"", "\x7f", "\xff", "a\xff", "\xe1", "é", "aé", "ａ", "０", "٣", "ſ", "\u212a", "\ufffd",
		strings.Repeat("x", 17), strings.Repeat("é", 8), strings.Repeat("x", 15) + "X", strings.Repeat("x", 16) + " ", strings.Repeat("x", 272), strings.Repeat("x", 100000),
	}
}

// nameByWords is Name by the words of the chapter.
func nameByWords(s string) bool { return nameForm.MatchString(s) }

// fits tells whether n is a right number, by the words of P1.1.
func fits(n int) bool { return n >= 0 && n <= 1<<40 }

// fitByWords tells whether a and b may be the numbers of that kind, by the rows of the chapter's table.
func fitByWords(kind, a, b int) bool {
	if !fits(a) || !fits(b) || table[kind].numbers == 1 && b != 0 {
		return false
	}
	switch table[kind].word {
	case "latency":
		return b <= a
	case "bandwidth":
		return 1 <= b && b <= 4096
	case "slicer":
		return 1 <= a && a <= 4096
	case "timeout", "reset_peer":
		return a != 0
	}
	return true
}

// checkByWords is Check by the words of P9.2.
func checkByWords(t api.Toxic) api.Errno {
	_, there := table[t.Kind]
	switch {
	case !nameByWords(t.Name):
		return api.ErrToxicForm
	case !there:
		return api.ErrToxicKind
	case t.Often < 0, t.Often > 100, !fitByWords(t.Kind, t.A, t.B):
		return api.ErrToxicPart
	}
	return api.OK
}

// textByWords is Text by the words of P9.3.
func textByWords(t api.Toxic) string {
	if checkByWords(t) != api.OK {
		return ""
	}
	row := table[t.Kind]
	s := fmt.Sprintf("%s %s %s %d %d", t.Name, row.word, map[bool]string{true: "up", false: "down"}[t.Up], t.Often, t.A)
	if row.numbers == 2 {
		s += fmt.Sprintf(" %d", t.B)
	}
	return s
}

// numberByWords is the number whose tick.Text s is, by the words of P1.2.
func numberByWords(s string) (int, bool) {
	n, err := strconv.Atoi(s)
	return n, err == nil && fits(n) && strconv.Itoa(n) == s
}

// parseByWords is Parse by the words of P9.3.
func parseByWords(s string) (api.Toxic, api.Errno) {
	form := toxicForm.FindStringSubmatch(s)
	if form == nil {
		return api.Toxic{}, api.ErrToxicForm
	}
	t, numbers := api.Toxic{Name: form[1], Up: form[3] == "up"}, 1
	var is, isA bool
	t.Often, is = numberByWords(form[4])
	t.A, isA = numberByWords(form[5])
	isB := true
	if form[6] != "" {
		numbers = 2
		t.B, isB = numberByWords(form[6])
	}
	if !is || !isA || !isB {
		return api.Toxic{}, api.ErrToxicForm
	}
	for kind, row := range table {
		if row.word == form[2] {
			t.Kind = kind
		}
	}
	if t.Kind == 0 || table[t.Kind].numbers != numbers {
		return api.Toxic{}, api.ErrToxicKind
	}
	if e := checkByWords(t); e != api.OK {
		return api.Toxic{}, e
	}
	return t, api.OK
}

// texted are toxics that may be, by their texts.
func texted() map[string]api.Toxic {
	return map[string]api.Toxic{
		"lag latency up 100 20 5":                           {Name: "lag", Kind: api.Latency, Up: true, Often: 100, A: 20, B: 5},
		"a latency down 1 0 0":                              {Name: "a", Kind: api.Latency, Often: 1},
		"a latency up 0 7 7":                                {Name: "a", Kind: api.Latency, Up: true, A: 7, B: 7},
		"a latency up 99 1099511627776 1099511627776":       {Name: "a", Kind: api.Latency, Up: true, Often: 99, A: top, B: top},
		"b bandwidth down 50 0 4096":                        {Name: "b", Kind: api.Bandwidth, Often: 50, B: 4096},
		"b bandwidth up 100 1099511627776 1":                {Name: "b", Kind: api.Bandwidth, Up: true, Often: 100, A: top, B: 1},
		"s slicer up 0 1 0":                                 {Name: "s", Kind: api.Slicer, Up: true, A: 1},
		"s slicer down 12 4096 1099511627776":               {Name: "s", Kind: api.Slicer, Often: 12, A: 4096, B: top},
		"t timeout down 100 1":                              {Name: "t", Kind: api.Timeout, Often: 100, A: 1},
		"t timeout up 100 1099511627776":                    {Name: "t", Kind: api.Timeout, Up: true, Often: 100, A: top},
		"r-1 reset_peer up 7 9":                             {Name: "r-1", Kind: api.Reset, Up: true, Often: 7, A: 9},
		"_ reset_peer down 100 1":                           {Name: "_", Kind: api.Reset, Often: 100, A: 1},
		"l_2 limit_data down 100 0":                         {Name: "l_2", Kind: api.Limit, Often: 100},
		"limit_data limit_data up 10 1099511627776":         {Name: "limit_data", Kind: api.Limit, Up: true, Often: 10, A: top},
		"0 slow_close up 100 1099511627776":                 {Name: "0", Kind: api.Slow, Up: true, Often: 100, A: top},
		"abcdefghijklmnop slow_close down 0 0":              {Name: "abcdefghijklmnop", Kind: api.Slow},
		"down latency up 100 4096 4095":                     {Name: "down", Kind: api.Latency, Up: true, Often: 100, A: 4096, B: 4095},
		"0123456789_-abcd bandwidth down 100 1234567 89":    {Name: "0123456789_-abcd", Kind: api.Bandwidth, Often: 100, A: 1234567, B: 89},
		"efghijklmnopqrst slicer up 100 4095 1099511627775": {Name: "efghijklmnopqrst", Kind: api.Slicer, Up: true, Often: 100, A: 4095, B: top - 1},
		"uvwxyz timeout down 100 1000000000000":             {Name: "uvwxyz", Kind: api.Timeout, Often: 100, A: 1000000000000},
	}
}

// eachToxic calls do with toxics of five names, someKinds, twelve Oftens and all edges as A and B; by these each goes one way alone.
func eachToxic(do func(t api.Toxic)) {
	for _, name := range []string{"a", "abcdefghijklmnop", "", "abcdefghijklmnopq", "A"} {
		for _, kind := range someKinds() {
			for _, often := range []int{math.MinInt, -100, -1, 0, 1, 50, 99, 100, 101, 356, 1 << 32, math.MaxInt} {
				for _, a := range edges() {
					for _, b := range edges() {
						do(api.Toxic{Name: name, Kind: kind, Up: (a+b)%2 == 0, Often: often, A: a, B: b})
					}
				}
			}
		}
	}
}

// P9.1

func TestName(t *testing.T) {
	for _, s := range namesThatAre() {
		if !Name(s) {
			t.Errorf("P9.1: Name(%q) is false", s)
		}
	}
	for _, s := range namesThatArent() {
		if Name(s) {
			t.Errorf("P9.1: Name(%.40q) is true", s)
		}
	}
}

func TestNameOfEachByte(t *testing.T) {
	for sign := range 256 {
		one := string([]byte{byte(sign)})
		is := strings.Contains("abcdefghijklmnopqrstuvwxyz0123456789_-", one)
		for _, s := range []string{one, one + "b", "b" + one, "b" + one + "b", one + strings.Repeat("b", 15), strings.Repeat("b", 15) + one} {
			if Name(s) != is {
				t.Errorf("P9.1: Name(%q) is %t", s, !is)
			}
		}
	}
}

func TestNameOfEachLength(t *testing.T) {
	for n := range 600 {
		if s := strings.Repeat("n", n); Name(s) != (n >= 1 && n <= 16) {
			t.Errorf("P9.1: Name of %d bytes is %t", n, Name(s))
		}
	}
}

func TestKinds(t *testing.T) {
	for _, kind := range someKinds() {
		row := table[kind]
		if got := Word(kind); got != row.word {
			t.Errorf("P9.1: Word(%d) is %q, not %q", kind, got, row.word)
		}
		if got := Numbers(kind); got != row.numbers {
			t.Errorf("P9.1: Numbers(%d) is %d, not %d", kind, got, row.numbers)
		}
	}
}

func TestKindOfWords(t *testing.T) {
	for s, want := range map[string]int{
		"latency": api.Latency, "bandwidth": api.Bandwidth, "slicer": api.Slicer, "timeout": api.Timeout,
		"reset_peer": api.Reset, "limit_data": api.Limit, "slow_close": api.Slow,
	} {
		if got := Kind(s); got != want {
			t.Errorf("P9.1: Kind(%q) is %d, not %d", s, got, want)
		}
	}
}

func TestKindOfNoWord(t *testing.T) {
	check := func(s string) {
		if got := Kind(s); got != 0 {
			t.Errorf("P9.1: Kind(%q) is %d", s, got)
		}
	}
	for _, s := range []string{"", " ", "pass", "up", "down", "reset", "limit", "slow", "lag", "none", "0", "1", "latency bandwidth", "latencybandwidth", "\x00", "\xff"} {
		check(s)
	}
	for _, row := range table {
		for i := range len(row.word) {
			check(row.word[:i])
			check(row.word[i+1:])
			check(row.word[:i] + row.word[i+1:])
			check(row.word[:i] + strings.ToUpper(row.word[i:i+1]) + "x" + row.word[i+1:])
			check(row.word[:i] + "\x00" + row.word[i+1:])
		}
		for _, s := range []string{strings.ToUpper(row.word), strings.ToUpper(row.word[:1]) + row.word[1:], " " + row.word, row.word + " ", row.word + "s", row.word + "\x00", row.word + row.word, strings.ReplaceAll(row.word+"_", "_", "-")} {
			check(s)
		}
	}
}

func TestEnds(t *testing.T) {
	for _, kind := range someKinds() {
		word := table[kind].word
		want := word == "timeout" || word == "reset_peer" || word == "limit_data"
		if got := Ends(kind); got != want {
			t.Errorf("P9.1: Ends(%d) is %t", kind, got)
		}
	}
}

// P9.2

func TestCheckOfNumbers(t *testing.T) {
	for _, row := range []struct {
		kind, a, b int
		want       api.Errno
	}{
		{api.Latency, 0, 0, api.OK},
		{api.Latency, 5, 0, api.OK},
		{api.Latency, 5, 5, api.OK},
		{api.Latency, 5, 6, api.ErrToxicPart},
		{api.Latency, 0, 1, api.ErrToxicPart},
		{api.Latency, 5, -1, api.ErrToxicPart},
		{api.Latency, -1, -1, api.ErrToxicPart},
		{api.Latency, -1, -2, api.ErrToxicPart},
		{api.Latency, top, top, api.OK},
		{api.Latency, top, top + 1, api.ErrToxicPart},
		{api.Latency, top + 1, 0, api.ErrToxicPart},
		{api.Latency, top + 1, top + 1, api.ErrToxicPart},
		{api.Latency, math.MaxInt, 0, api.ErrToxicPart},
		{api.Bandwidth, 0, 1, api.OK},
		{api.Bandwidth, 0, 4096, api.OK},
		{api.Bandwidth, top, 1, api.OK},
		{api.Bandwidth, 3, 10, api.OK},
		{api.Bandwidth, 5, 0, api.ErrToxicPart},
		{api.Bandwidth, 5, 4097, api.ErrToxicPart},
		{api.Bandwidth, 5, -1, api.ErrToxicPart},
		{api.Bandwidth, -1, 5, api.ErrToxicPart},
		{api.Bandwidth, top + 1, 5, api.ErrToxicPart},
		{api.Slicer, 1, 0, api.OK},
		{api.Slicer, 4096, top, api.OK},
		{api.Slicer, 4096, 4097, api.OK},
		{api.Slicer, 0, 3, api.ErrToxicPart},
		{api.Slicer, -1, 3, api.ErrToxicPart},
		{api.Slicer, 4097, 3, api.ErrToxicPart},
		{api.Slicer, 5, -1, api.ErrToxicPart},
		{api.Slicer, 5, top + 1, api.ErrToxicPart},
		{api.Timeout, 1, 0, api.OK},
		{api.Timeout, top, 0, api.OK},
		{api.Timeout, 0, 0, api.ErrToxicPart},
		{api.Timeout, -1, 0, api.ErrToxicPart},
		{api.Timeout, top + 1, 0, api.ErrToxicPart},
		{api.Timeout, 1, 1, api.ErrToxicPart},
		{api.Timeout, 1, -1, api.ErrToxicPart},
		{api.Reset, 1, 0, api.OK},
		{api.Reset, top, 0, api.OK},
		{api.Reset, 0, 0, api.ErrToxicPart},
		{api.Reset, -1, 0, api.ErrToxicPart},
		{api.Reset, top + 1, 0, api.ErrToxicPart},
		{api.Reset, 1, 1, api.ErrToxicPart},
		{api.Limit, 0, 0, api.OK},
		{api.Limit, top, 0, api.OK},
		{api.Limit, -1, 0, api.ErrToxicPart},
		{api.Limit, top + 1, 0, api.ErrToxicPart},
		{api.Limit, 2, 1, api.ErrToxicPart},
		{api.Limit, 2, math.MinInt, api.ErrToxicPart},
		{api.Slow, 0, 0, api.OK},
		{api.Slow, top, 0, api.OK},
		{api.Slow, -1, 0, api.ErrToxicPart},
		{api.Slow, top + 1, 0, api.ErrToxicPart},
		{api.Slow, 2, 1, api.ErrToxicPart},
		{api.Slow, 2, math.MaxInt, api.ErrToxicPart},
	} {
		for _, up := range []bool{true, false} {
			x := api.Toxic{Name: "x", Kind: row.kind, Up: up, Often: 100, A: row.a, B: row.b}
			if e := Check(x); e != row.want || Right(x) != (row.want == api.OK) {
				t.Errorf("P9.2: Check(%+v) is %d, not %d; Right is %t", x, e, row.want, Right(x))
			}
		}
	}
}

func TestCheckOfOften(t *testing.T) {
	for kind := range table {
		for often := -300; often <= 400; often++ {
			x, want := api.Toxic{Name: "x", Kind: kind, Often: often, A: 5}, api.OK
			if kind == api.Bandwidth {
				x.B = 5
			}
			if often < 0 || often > 100 {
				want = api.ErrToxicPart
			}
			if e := Check(x); e != want || Right(x) != (want == api.OK) {
				t.Errorf("P9.2: Check(%+v) is %d, not %d; Right is %t", x, e, want, Right(x))
			}
		}
	}
}

func TestCheckTellsTheFirst(t *testing.T) {
	for _, x := range []struct {
		toxic api.Toxic
		want  api.Errno
	}{
		{api.Toxic{}, api.ErrToxicForm},
		{api.Toxic{Kind: api.Limit}, api.ErrToxicForm},
		{api.Toxic{Name: "A", Kind: 8, Often: 101, A: -1, B: -1}, api.ErrToxicForm},
		{api.Toxic{Name: "A", Kind: api.Limit, Often: 101, A: -1, B: -1}, api.ErrToxicForm},
		{api.Toxic{Name: "a"}, api.ErrToxicKind},
		{api.Toxic{Name: "a", Kind: api.Pass, Up: true, Often: 100}, api.ErrToxicKind},
		{api.Toxic{Name: "a", Kind: -1, Often: 101, A: -1, B: -1}, api.ErrToxicKind},
		{api.Toxic{Name: "a", Kind: 8, Often: 101, A: -1, B: -1}, api.ErrToxicKind},
		{api.Toxic{Name: "a", Kind: api.Limit, Often: 101}, api.ErrToxicPart},
		{api.Toxic{Name: "a", Kind: api.Limit, Often: -1}, api.ErrToxicPart},
		{api.Toxic{Name: "a", Kind: api.Limit}, api.OK},
	} {
		if e := Check(x.toxic); e != x.want || Right(x.toxic) != (x.want == api.OK) {
			t.Errorf("P9.2: Check(%+v) is %d, not %d; Right is %t", x.toxic, e, x.want, Right(x.toxic))
		}
	}
}

func TestCheckOfNames(t *testing.T) {
	for kind := range table {
		x := api.Toxic{Kind: kind, Often: 100, A: 5}
		if kind == api.Bandwidth {
			x.B = 5
		}
		for _, x.Name = range namesThatAre() {
			if e := Check(x); e != api.OK || !Right(x) {
				t.Errorf("P9.2: Check(%+v) is %d; Right is %t", x, e, Right(x))
			}
		}
		for _, x.Name = range namesThatArent() {
			if e := Check(x); e != api.ErrToxicForm || Right(x) {
				t.Errorf("P9.2: Check of the name %.40q is %d; Right is %t", x.Name, e, Right(x))
			}
		}
	}
}

func TestCheckOfAllEdges(t *testing.T) {
	eachToxic(func(x api.Toxic) {
		want := checkByWords(x)
		if e := Check(x); e != want {
			t.Errorf("P9.2: Check(%+v) is %d, not %d", x, e, want)
		}
		if is := Right(x); is != (want == api.OK) {
			t.Errorf("P9.2: Right(%+v) is %t", x, is)
		}
	})
}

// P9.3

func TestText(t *testing.T) {
	for want, x := range texted() {
		if got := Text(x); got != want {
			t.Errorf("P9.3: Text(%+v) is %q, not %q", x, got, want)
		}
	}
}

func TestTextOfAllEdges(t *testing.T) {
	eachToxic(func(x api.Toxic) {
		if got, want := Text(x), textByWords(x); got != want {
			t.Errorf("P9.3: Text(%+v) is %q, not %q", x, got, want)
		}
	})
}

func TestParse(t *testing.T) {
	for s, want := range texted() {
		if x, e := Parse(s); x != want || e != api.OK {
			t.Errorf("P9.3: Parse(%q) is %+v, %d", s, x, e)
		}
	}
}

// refused checks that Parse tells this error, and the zero toxic, of each text.
func refused(t *testing.T, want api.Errno, texts ...string) {
	t.Helper()
	for _, s := range texts {
		if x, e := Parse(s); x != (api.Toxic{}) || e != want {
			t.Errorf("P9.3: Parse(%.80q) is %+v, %d, not %d", s, x, e, want)
		}
	}
}

func TestParseRefusesOtherParts(t *testing.T) {
	refused(t, api.ErrToxicForm,
		"", " ", "     ", "    ", "a", "a latency", "a latency up", "a latency up 100", "a timeout up 100",
		"a latency up 100 20 5 1", "a timeout up 100 20 5 1", "a latency up 100 20 5 1 1", "a latency up 100 20 5 b timeout up 100 5",
		" a latency up 100 20 5", "a latency up 100 20 5 ", "a timeout up 100 20 ", " a timeout up 100 20", " latency up 100 20 5", " timeout up 100 20",
		"a  latency up 100 20 5", "a latency  up 100 20 5", "a latency up  100 20 5", "a latency up 100  20 5", "a latency up 100 20  5",
		"a  timeout up 100 20", "a timeout  up 100 20", "a timeout up  100 20", "a timeout up 100  20", "a timeout up 100  ", "a  up 100 20 5", "a  up 100 20",
		"a\tlatency\tup\t100\t20\t5", "a latency up 100 20\t5", "a latency up\t100 20 5", "a latency up 100 20 5\n", "a timeout up 100 20\n5",
		strings.Repeat(" ", 1<<20), strings.Repeat("a ", 1<<20), strings.Repeat("a", 1<<20), "a latency up 100 20 5"+strings.Repeat(" ", 1<<20),
	)
}

func TestParseRefusesOtherWays(t *testing.T) {
	for _, way := range []string{"Up", "UP", "uP", "Down", "DOWN", "u", "p", "dow", "own", "ups", "downs", "up\t", "updown", "true", "1", "0", "-", "\x00", "\xff", "100"} {
		refused(t, api.ErrToxicForm, "a latency "+way+" 100 20 5", "a timeout "+way+" 100 20")
	}
	refused(t, api.ErrToxicForm, "up a latency 100 20 5", "a up latency 100 20 5", "a latency 100 up 20 5", "a up down 100 20 5 1")
}

func TestParseRefusesOtherNumbers(t *testing.T) {
	for _, n := range []string{
		"x", "00", "007", "01", "-0", "-1", "+1", "1x", "x1", "0x1", "1e2", "1.0", "1_0", "1,", "/", ":", "\x00", "1\x00", "\xff", "1\t", "\t1", "٣", "３",
		"1099511627777", "9999999999999", "10995116277760", "9223372036854775808", "18446744073709551617", strings.Repeat("1", 1<<20), strings.Repeat("0", 1<<20),
	} {
		refused(t, api.ErrToxicForm,
			"a latency up "+n+" 20 5", "a latency up 100 "+n+" 5", "a latency up 100 20 "+n, "a timeout up "+n+" 20", "a timeout up 100 "+n,
			"a timeout up 100 20 "+n, // a sixth part that is no number is of another form, even where there may be none
		)
	}
}

func TestParseRefusesOtherKinds(t *testing.T) {
	for _, word := range []string{"lag", "Latency", "LATENCY", "latenc", "latencys", "pass", "reset", "limit", "slow", "timeout\t", "up", "0", "1", "\x00", "\xff", strings.Repeat("l", 1<<20)} {
		refused(t, api.ErrToxicKind, "a "+word+" up 100 20 5", "a "+word+" down 100 20", "a "+word+" up 100 0 0", "a "+word+" up 100 0")
	}
	asManyAsTheOthersHave := map[int]string{2: "20", 1: "20 5"}
	for _, row := range table {
		refused(t, api.ErrToxicKind, "a "+row.word+" up 100 "+asManyAsTheOthersHave[row.numbers])
	}
	refused(t, api.ErrToxicKind, "a timeout up 100 20 0", "a limit_data down 0 0 0", "a latency up 100 0", "a bandwidth down 0 1", "a slicer up 1 1")
}

func TestParseRefusesOtherToxics(t *testing.T) {
	for _, name := range []string{"A", "a.b", "é", "a\t", "\t", "\x00", "\xff", "\"a\"", "abcdefghijklmnopq", strings.Repeat("x", 1<<20)} {
		refused(t, api.ErrToxicForm, name+" latency up 100 20 5", name+" timeout down 100 20")
	}
	refused(t, api.ErrToxicPart,
		"x timeout down 50 0", "x reset_peer down 50 0", "x latency up 100 5 6", "x latency up 100 0 1", "x latency up 101 5 5",
		"x bandwidth up 100 5 0", "x bandwidth up 100 5 4097", "x slicer up 100 0 3", "x slicer up 100 4097 3",
		"x limit_data up 101 3", "x slow_close up 1099511627776 3", "x timeout up 356 3",
	)
}

func TestParseTellsTheFirst(t *testing.T) {
	refused(t, api.ErrToxicForm, "A lag Up 101 20 5", "A lag up 0101 20 5", "x lag up 100", "x lag up 100 x", "x timeout up 100 20 x", "x timeout up 100 0 05", "x latency up 101 x", " lag up 100 0")
	refused(t, api.ErrToxicKind, "A lag up 101 20 5", "A timeout up 101 0 0", "A latency up 101 0", "x lag up 101 0", "x latency up 101 0")
	refused(t, api.ErrToxicForm, "A latency up 101 5 6", "A timeout up 101 0")
	refused(t, api.ErrToxicPart, "x latency up 101 5 6", "x timeout up 101 0")
}

// likeByWords checks that Parse tells of s what the words of P9.3 do, and that s is the Text of what is told.
func likeByWords(t *testing.T, s string) {
	t.Helper()
	want, wantErr := parseByWords(s)
	x, e := Parse(s)
	if x != want || e != wantErr {
		t.Errorf("P9.3: Parse(%q) is %+v, %d, not %+v, %d", s, x, e, want, wantErr)
	}
	if e == api.OK && Text(x) != s {
		t.Errorf("P9.3: Text of Parse(%q) is %q", s, Text(x))
	}
}

func TestParseOfTextsWithOneOtherByte(t *testing.T) {
	others := []string{"", " ", "  ", "\t", "\n", "\x00", "0", "1", "5", "9", "-", "+", "_", "a", "u", "up", "A", "#", "\"", "é", "\xff"}
	for s := range texted() {
		for i := range len(s) + 1 {
			likeByWords(t, s[:i])
			likeByWords(t, s[i:])
			for _, other := range others {
				likeByWords(t, s[:i]+other+s[i:])
				if i < len(s) {
					likeByWords(t, s[:i]+other+s[i+1:])
				}
			}
		}
	}
}

func TestParseOfPartsByChance(t *testing.T) {
	chance := rand.New(rand.NewSource(9))
	from := func(l ...string) string { return l[chance.Intn(len(l))] }
	number := func() string {
		return from("0", "1", "5", "50", "100", "101", "4096", "4097", "1099511627776", "1099511627777", "007", "-1", "x")
	}
	word := func() string {
		if chance.Intn(8) == 0 {
			return from("lag", "", "up", "Timeout")
		}
		return table[1+chance.Intn(7)].word
	}
	told := map[api.Errno]int{}
	for range 100000 {
		parts := []string{from("a", "lag", "abcdefghijklmnop", "abcdefghijklmnopq", "A", ""), word(), from("up", "down", "up", "down", "Up"), number(), number(), number(), number()}
		s := strings.Join(parts[:4+chance.Intn(4)], " ")
		likeByWords(t, s)
		_, e := Parse(s)
		told[e]++
	}
	for _, e := range []api.Errno{api.OK, api.ErrToxicForm, api.ErrToxicKind, api.ErrToxicPart} {
		if told[e] < 100 {
			t.Errorf("P9.3: of texts by chance %d is told %d times alone", e, told[e])
		}
	}
}

// P9.4

func TestWordsKinds(t *testing.T) {
	for kind := range table {
		if got := Kind(Word(kind)); got != kind {
			t.Errorf("P9.4: Kind(Word(%d)) is %d", kind, got)
		}
	}
}

// parsedAgain checks that Parse(Text(x)) is x.
func parsedAgain(t *testing.T, x api.Toxic) {
	t.Helper()
	if y, e := Parse(Text(x)); y != x || e != api.OK {
		t.Errorf("P9.4: Parse(Text(%+v)) is %+v, %d", x, y, e)
	}
}

func TestTextsToxics(t *testing.T) {
	right := 0
	eachToxic(func(x api.Toxic) {
		if Right(x) {
			right++
			parsedAgain(t, x)
		}
	})
	if right == 0 {
		t.Error("P9.4: none of the toxics is right")
	}
}

func TestTextsToxicsByChance(t *testing.T) {
	chance := rand.New(rand.NewSource(94))
	signs := "abcdefghijklmnopqrstuvwxyz0123456789_-"
	for range 50000 {
		var name strings.Builder
		for range 1 + chance.Intn(16) {
			name.WriteByte(signs[chance.Intn(len(signs))])
		}
		x := api.Toxic{Name: name.String(), Kind: 1 + chance.Intn(7), Up: chance.Intn(2) == 0, Often: chance.Intn(101)}
		x.A = 1 + chance.Intn(1<<chance.Intn(41))
		switch x.Kind {
		case api.Latency:
			x.B = chance.Intn(x.A + 1)
		case api.Bandwidth:
			x.B = 1 + chance.Intn(4096)
		case api.Slicer:
			x.A, x.B = 1+chance.Intn(4096), chance.Intn(top+1)
		}
		if !Right(x) {
			t.Fatalf("P9.2: Right(%+v) is false", x)
		}
		parsedAgain(t, x)
	}
}

// The rules

func TestSameCallsTellTheSame(t *testing.T) {
	for s := range texted() {
		for range 20 { // R7: the rules stand in a map, whose order may not be told
			x, e := Parse(s)
			y, f := Parse(s)
			if x != y || e != f || Text(x) != Text(y) || Check(x) != Check(y) {
				t.Errorf("R7: Parse(%q) is %+v, %d, and then %+v, %d", s, x, e, y, f)
			}
		}
	}
}
