package order

import (
	"fmt"
	"math"
	"math/rand"
	"regexp"
	"slices"
	"strings"
	"testing"

	"chicane/api"
	"chicane/tick"
	"chicane/toxic"
	"chicane/words"
)

// row is a row of the chapter's table: a verb's words, and what belongs to it.
type row struct {
	words                     []string
	proxy, name, number, harm bool
}

// table is the chapter's table of the verbs, written a second time.
var table = map[int]row{
	1:  {words: []string{"proxy", "add"}, proxy: true, number: true},
	2:  {words: []string{"proxy", "drop"}, proxy: true},
	3:  {words: []string{"on"}, proxy: true},
	4:  {words: []string{"off"}, proxy: true},
	5:  {words: []string{"toxic", "add"}, proxy: true, harm: true},
	6:  {words: []string{"toxic", "drop"}, proxy: true, name: true},
	7:  {words: []string{"toxic", "set"}, proxy: true, harm: true},
	8:  {words: []string{"list"}},
	9:  {words: []string{"show"}, proxy: true},
	10: {words: []string{"reset"}},
}

// tickForm is the form of a tick.Text, but for its greatest number; gapForm that of a word that is no part of a toxic.
var (
	tickForm = regexp.MustCompile(`^(0|[1-9][0-9]{0,12})$`)
	gapForm  = regexp.MustCompile(`^$|[ \t]`)
)

// many is s so many times.
func many(n int, s string) string { return strings.Repeat(s, n) }

// told tells an answer of FromWords, or Parse, so that two are the same if their texts are.
func told(o Order, e api.Errno) string { return show(o) + fmt.Sprintf(" %d", e) }

// show is o in one line, with its texts in quotes.
func show(o Order) string {
	x := o.Toxic
	return fmt.Sprintf("{%d %q %q %d {%q %d %v %d %d %d}}", o.Verb, o.Proxy, o.Name, o.N, x.Name, x.Kind, x.Up, x.Often, x.A, x.B)
}

// numberByWords is the number whose tick.Text s is, by the words of chapter 1.
func numberByWords(s string) (int, bool) {
	n := 0
	if !tickForm.MatchString(s) {
		return 0, false
	}
	fmt.Sscan(s, &n)
	return n, n <= 1<<40
}

// fromByWords is FromWords by the words of P16.1, written a second time.
func fromByWords(l []string) (Order, api.Errno) {
	if len(l) == 0 {
		return Order{}, api.ErrOrderNone
	}
	var o Order
	for verb, r := range table {
		if len(r.words) <= len(l) && fmt.Sprintf("%q", r.words) == fmt.Sprintf("%q", l[:len(r.words)]) {
			o.Verb = verb
		}
	}
	if o.Verb == 0 {
		return Order{}, api.ErrOrderForm
	}
	r := table[o.Verb]
	rest := l[len(r.words):]
	may := map[int]bool{0: !r.proxy, 1: r.proxy && !r.name && !r.number && !r.harm, 2: r.name || r.number, 6: r.harm, 7: r.harm}
	if !may[len(rest)] {
		return Order{}, api.ErrOrderMany
	}
	if r.proxy {
		o.Proxy = rest[0]
	}
	if r.name {
		o.Name = rest[1]
	}
	if r.number {
		n, is := numberByWords(rest[1])
		if !is {
			return Order{}, api.ErrOrderForm
		}
		o.N = n
	}
	if r.harm {
		for _, word := range rest[1:] {
			if gapForm.MatchString(word) {
				return Order{}, api.ErrToxicForm
			}
		}
		t, e := toxic.Parse(strings.Join(rest[1:], " "))
		if e != api.OK {
			return Order{}, e
		}
		o.Toxic = t
	}
	return o, api.OK
}

// wordsByWords is Words by the words of P16.2, written a second time.
func wordsByWords(o Order) []string {
	r, there := table[o.Verb]
	if !there || r.harm && !toxic.Right(o.Toxic) {
		return nil
	}
	l := slices.Clone(r.words)
	if r.proxy {
		l = append(l, o.Proxy)
	}
	if r.name {
		l = append(l, o.Name)
	}
	if r.number {
		l = append(l, fmt.Sprint(min(max(o.N, 0), 1<<40)))
	}
	if r.harm {
		l = append(l, strings.Split(toxic.Text(o.Toxic), " ")...)
	}
	return l
}

// strip is o without what does not belong to its verb, and with the nearest number that is right.
func strip(o Order) Order {
	r := table[o.Verb]
	other := Order{Verb: o.Verb}
	if r.proxy {
		other.Proxy = o.Proxy
	}
	if r.name {
		other.Name = o.Name
	}
	if r.number {
		other.N = min(max(o.N, 0), 1<<40)
	}
	if r.harm {
		other.Toxic = o.Toxic
	}
	return other
}

func lag() api.Toxic {
	return api.Toxic{Name: "lag", Kind: api.Latency, Up: true, Often: 100, A: 5, B: 1}
}

func TestExample(t *testing.T) {
	o, e := Parse("toxic add p lag latency up 100 5 1")
	if o != (Order{Verb: 5, Proxy: "p", Toxic: lag()}) || e != api.OK {
		t.Errorf("the first example: %s", told(o, e))
	}
	if o, e := Parse("list all"); o != (Order{}) || e != api.ErrOrderMany {
		t.Errorf("the second example: %s", told(o, e))
	}
	if o, e := Parse("fly"); o != (Order{}) || e != api.ErrOrderForm {
		t.Errorf("the third example: %s", told(o, e))
	}
}

func TestVerbs(t *testing.T) {
	l := []int{AddProxy, DropProxy, On, Off, AddToxic, DropToxic, SetToxic, List, Show, Reset}
	if !slices.Equal(l, []int{1, 2, 3, 4, 5, 6, 7, 8, 9, 10}) {
		t.Errorf("P16.1: the verbs are %d", l)
	}
	got := Verbs()
	if len(got) != 10 {
		t.Fatalf("P16.1: Verbs tells %q", got)
	}
	for verb, r := range table {
		if got[verb-1] != strings.Join(r.words, " ") {
			t.Errorf("P16.1: the words of verb %d are %q", verb, got[verb-1])
		}
	}
}

func TestChanges(t *testing.T) {
	for verb, want := range map[int]bool{
		1: true, 2: true, 3: true, 4: true, 5: true, 6: true, 7: true, 10: true,
		8: false, 9: false, 0: false, 11: false, 12: false, -1: false, -10: false, 100: false, 256 + 1: false, 1<<32 + 1: false, math.MinInt: false, math.MaxInt: false,
	} {
		if Changes(verb) != want {
			t.Errorf("P16.1: Changes(%d) is %v", verb, !want)
		}
	}
}

// answer is a row of what a call of FromWords tells.
type answer struct {
	l    []string
	want Order
	e    api.Errno
}

// w are words.
func w(l ...string) []string { return l }

// check holds FromWords to rows, and so Parse to their lines.
func check(t *testing.T, rows []answer) {
	t.Helper()
	for _, x := range rows {
		if o, e := FromWords(x.l); o != x.want || e != x.e {
			t.Errorf("P16.1: FromWords(%.300q) is %.300s, and not %.300s", x.l, told(o, e), told(x.want, x.e))
		}
		line := words.Join(x.l)
		if line == "" {
			continue
		}
		if o, e := Parse(line); o != x.want || e != x.e {
			t.Errorf("P16.1: Parse(%.300q) is %.300s, and not %.300s", line, told(o, e), told(x.want, x.e))
		}
	}
}

func TestOrders(t *testing.T) {
	check(t, []answer{
		{w("proxy", "add", "a", "3"), Order{Verb: AddProxy, Proxy: "a", N: 3}, api.OK},
		{w("proxy", "drop", "a"), Order{Verb: DropProxy, Proxy: "a"}, api.OK},
		{w("on", "a"), Order{Verb: On, Proxy: "a"}, api.OK},
		{w("off", "a"), Order{Verb: Off, Proxy: "a"}, api.OK},
		{w("toxic", "add", "a", "lag", "latency", "up", "100", "5", "1"), Order{Verb: AddToxic, Proxy: "a", Toxic: lag()}, api.OK},
		{w("toxic", "add", "a", "x", "timeout", "down", "0", "9"), Order{Verb: AddToxic, Proxy: "a", Toxic: api.Toxic{Name: "x", Kind: api.Timeout, A: 9}}, api.OK},
		{w("toxic", "drop", "a", "lag"), Order{Verb: DropToxic, Proxy: "a", Name: "lag"}, api.OK},
		{w("toxic", "set", "a", "lag", "latency", "up", "100", "5", "1"), Order{Verb: SetToxic, Proxy: "a", Toxic: lag()}, api.OK},
		{w("toxic", "set", "a", "x", "slow_close", "up", "7", "0"), Order{Verb: SetToxic, Proxy: "a", Toxic: api.Toxic{Name: "x", Kind: api.Slow, Up: true, Often: 7}}, api.OK},
		{w("list"), Order{Verb: List}, api.OK},
		{w("show", "a"), Order{Verb: Show, Proxy: "a"}, api.OK},
		{w("reset"), Order{Verb: Reset}, api.OK},
	})
}

// TestNamesAreAnyWords has words as names that no proxy and no toxic may have.
func TestNamesAreAnyWords(t *testing.T) {
	for _, s := range w("", " ", "a b", "\t", "#", "#a", `"`, `\`, "A", "on", "list", "proxy add", "3", many(17, "x"), many(240, "x"), "\x00", "\n", "é", "\xff", many(1000, "é")) {
		check(t, []answer{
			{w("proxy", "add", s, "3"), Order{Verb: AddProxy, Proxy: s, N: 3}, api.OK},
			{w("proxy", "drop", s), Order{Verb: DropProxy, Proxy: s}, api.OK},
			{w("on", s), Order{Verb: On, Proxy: s}, api.OK},
			{w("off", s), Order{Verb: Off, Proxy: s}, api.OK},
			{w("show", s), Order{Verb: Show, Proxy: s}, api.OK},
			{w("toxic", "drop", s, "x"), Order{Verb: DropToxic, Proxy: s, Name: "x"}, api.OK},
			{w("toxic", "drop", "x", s), Order{Verb: DropToxic, Proxy: "x", Name: s}, api.OK},
			{w("toxic", "add", s, "lag", "latency", "up", "100", "5", "1"), Order{Verb: AddToxic, Proxy: s, Toxic: lag()}, api.OK},
			{w("toxic", "set", s, "lag", "latency", "up", "100", "5", "1"), Order{Verb: SetToxic, Proxy: s, Toxic: lag()}, api.OK},
		})
	}
}

func TestNoVerb(t *testing.T) {
	for _, l := range [][]string{nil, {}} {
		if o, e := FromWords(l); o != (Order{}) || e != api.ErrOrderNone {
			t.Errorf("P16.1: of no words: %s", told(o, e))
		}
	}
	for _, l := range [][]string{
		w("fly"), w("proxy"), w("toxic"), w("proxy", "set"), w("proxy", "set", "a"), w("proxy", "on", "a"), w("proxy", "list"), w("proxy", "proxy", "add", "a", "3"), w("toxic", "on", "a"), w("toxic", "show", "a"), w("toxic", "list"), w("toxic", "reset"), w("toxic", "toxic", "add"),
		w("add"), w("add", "proxy", "a", "3"), w("drop", "a"), w("set", "a"), w("a", "on"), w("a", "list"), w("3"),
		w("LIST"), w("List"), w("liſt"), w("lis"), w("lists"), w("list "), w(" list"), w("list\n"), w("\tlist"), w("o"), w("onn"), w("ON", "a"), w("of", "a"), w("offf", "a"), w("Proxy", "add", "a", "3"), w("proxy", "Add", "a", "3"), w("proxy", "ad", "a", "3"), w("proxy", "adds", "a", "3"), w("prox", "add", "a", "3"), w("toxic", "sets", "a"), w("toxics", "drop", "a", "b"),
		w(""), w("", "list"), w("", "on", "a"), w("proxy", "", "add", "a", "3"), w("proxy add"), w("proxy add", "a", "3"), w("proxy add a 3"), w("proxy ", "add", "a", "3"), w("proxy", " add", "a", "3"), w("proxy", "add ", "a", "3"), w("toxic add", "a", "lag", "latency", "up", "100", "5", "1"), w("toxic\tdrop", "a", "b"), w("on a"), w("on\ta"), w("show\x00", "a"),
		w("#"), w("# list"), w("\x00"), w("\xff"), w("é"), w(many(300, "x")), w("proxy", many(300, "x")), w(many(20, "x "), "list"),
	} {
		if o, e := FromWords(l); o != (Order{}) || e != api.ErrOrderForm {
			t.Errorf("P16.1: FromWords(%.300q) is %.300s", l, told(o, e))
		}
	}
	for line, want := range map[string]api.Errno{"": api.ErrOrderNone, " \t": api.ErrOrderNone, "# list": api.ErrOrderNone, "  #": api.ErrOrderNone, `""`: api.ErrOrderForm, `"list"`: api.OK, `"proxy" "drop" "a"`: api.OK, `"proxy drop" a`: api.ErrOrderForm, `"# list"`: api.ErrOrderForm} {
		if o, e := Parse(line); e != want || e != api.OK && o != (Order{}) {
			t.Errorf("P16.1: Parse(%q) is %s", line, told(o, e))
		}
	}
}

// TestHowManyWords has up to 20 words behind each verb.
func TestHowManyWords(t *testing.T) {
	fit := map[int][]int{1: {2}, 2: {1}, 3: {1}, 4: {1}, 5: {6, 7}, 6: {2}, 7: {6, 7}, 8: {0}, 9: {1}, 10: {0}}
	for verb, r := range table {
		for n := range 21 {
			for _, word := range w("a", "3", "", " ") {
				l := append(slices.Clone(r.words), slices.Repeat(w(word), n)...)
				o, e := FromWords(l)
				if many := e == api.ErrOrderMany; many == slices.Contains(fit[verb], n) || many && o != (Order{}) {
					t.Errorf("P16.1: FromWords(%q) is %s", l, told(o, e))
				}
			}
		}
	}
	check(t, []answer{
		{w("proxy", "add", "a", "x", "y"), Order{}, api.ErrOrderMany}, {w("proxy", "add", "x"), Order{}, api.ErrOrderMany}, {w("list", "all"), Order{}, api.ErrOrderMany}, {w("reset", ""), Order{}, api.ErrOrderMany}, {w("on"), Order{}, api.ErrOrderMany}, {w("show"), Order{}, api.ErrOrderMany}, {w("on", "a", "b"), Order{}, api.ErrOrderMany},
		{w("toxic", "add", "a", "", "latency", "up", "100"), Order{}, api.ErrOrderMany}, {w("toxic", "add", "a", "lag", "latency", "up", "100", "5", "1", " "), Order{}, api.ErrOrderMany}, {w("toxic", "set", "lag", "latency", "up", "100", "5"), Order{}, api.ErrOrderMany}, {w("toxic", "drop", "a"), Order{}, api.ErrOrderMany}, {w("toxic", "drop", "a", "b", "c"), Order{}, api.ErrOrderMany},
	})
}

func TestNumbers(t *testing.T) {
	for s, n := range map[string]int{"0": 0, "1": 1, "9": 9, "10": 10, "16": 16, "17": 17, "1000000": 1000000, "1099511627775": 1<<40 - 1, "1099511627776": 1 << 40} {
		check(t, []answer{{w("proxy", "add", "a", s), Order{Verb: AddProxy, Proxy: "a", N: n}, api.OK}})
	}
	for _, s := range w("", " ", "x", "a", "00", "01", "007", "-0", "-1", "+1", "1 ", " 1", "1\t", "1.0", "1e3", "0x10", "1_0", "3x", "1099511627777", "9999999999999", "10995116277760", "18446744073709551616", many(100, "9"), "٣", "３", "\x00", "3\x00") {
		check(t, []answer{{w("proxy", "add", "a", s), Order{}, api.ErrOrderForm}})
	}
}

func TestToxics(t *testing.T) {
	for s, want := range map[string]api.Errno{
		"lag latency up 100 5 1": api.OK, "lag latency down 0 0 0": api.OK, "b bandwidth up 1 0 1": api.OK, "s slicer up 1 1 0": api.OK, "t timeout up 1 1": api.OK, "r reset_peer up 1 1": api.OK, "l limit_data up 1 0": api.OK, "c slow_close up 1 0": api.OK,
		"Lag latency up 100 5 1": api.ErrToxicForm, "lag latency Up 100 5 1": api.ErrToxicForm, "lag latency up 01 5 1": api.ErrToxicForm, "lag latency up 100 -5 1": api.ErrToxicForm, "lag latency up 100 5 x": api.ErrToxicForm, "l.g latency up 100 5 1": api.ErrToxicForm, "abcdefghijklmnopq latency up 1 1 1": api.ErrToxicForm,
		"lag fly up 100 5 1": api.ErrToxicKind, "lag LATENCY up 100 5 1": api.ErrToxicKind, "lag latency up 100 5": api.ErrToxicKind, "t timeout up 100 5 0": api.ErrToxicKind, "Lag fly up 100 5": api.ErrToxicKind,
		"lag latency up 101 5 1": api.ErrToxicPart, "lag latency up 100 5 6": api.ErrToxicPart, "b bandwidth up 100 5 0": api.ErrToxicPart, "s slicer up 100 4097 0": api.ErrToxicPart, "t timeout up 100 0": api.ErrToxicPart,
	} {
		x, _ := toxic.Parse(s)
		for verb, ahead := range map[int][]string{AddToxic: w("toxic", "add", "p"), SetToxic: w("toxic", "set", "p")} {
			o := Order{Verb: verb, Proxy: "p", Toxic: x}
			if want != api.OK {
				o = Order{}
			}
			check(t, []answer{{append(ahead, strings.Split(s, " ")...), o, want}})
		}
	}
}

// TestWordsThatAreNoParts has each word of a toxic empty, or with a blank or a tab in it, be the others right or not.
func TestWordsThatAreNoParts(t *testing.T) {
	for _, s := range w("lag latency up 100 5 1", "x timeout down 50 7", "lag fly up 100 5 1", "lag latency up 100 5", "lag latency up 101 5 1", "x timeout down 50 0") {
		for at := range strings.Split(s, " ") {
			for _, bad := range w("", " ", "\t", "  ", "up ", " up", "\tup", "up\t", "a b", "a\tb") {
				for _, verb := range w("add", "set") {
					l := strings.Split(s, " ")
					l[at] = bad
					check(t, []answer{{append(w("toxic", verb, "p"), l...), Order{}, api.ErrToxicForm}})
				}
			}
		}
	}
	check(t, []answer{ // such words may make a toxic's text as they are joined
		{w("toxic", "add", "p", "lag", "latency up", "100", "5", "1"), Order{}, api.ErrToxicForm}, {w("toxic", "add", "p", "lag latency", "up", "100", "5", "1"), Order{}, api.ErrToxicForm}, {w("toxic", "set", "p", "lag", "latency", "up", "100", "5 1"), Order{}, api.ErrToxicForm},
		{w("toxic", "set", "p", "l\tg", "fly", "up", "1", "1"), Order{}, api.ErrToxicForm}, {w("toxic", "set", "p", "lag", "fly\t", "up", "1", "1"), Order{}, api.ErrToxicForm},
		{w("toxic", "set", "p", "l\ng", "fly", "up", "1", "1"), Order{}, api.ErrToxicKind}, {w("toxic", "set", "p", "l\ng", "timeout", "up", "1", "1"), Order{}, api.ErrToxicForm}, // no blank and no tab
		{w("toxic", "add", "p q", "lag", "latency", "up", "100", "5", "1"), Order{Verb: AddToxic, Proxy: "p q", Toxic: lag()}, api.OK}, {w("toxic", "add", "", "lag", "latency", "up", "100", "5", "1"), Order{Verb: AddToxic, Toxic: lag()}, api.OK},
	})
}

func TestParseTellsSplitsErrors(t *testing.T) {
	for line, want := range map[string]api.Errno{
		`on a"`: api.ErrWordForm, `"`: api.ErrWordForm, `fly "`: api.ErrWordForm, "list\n": api.ErrWordForm, "list # \x01": api.ErrWordForm, "é": api.ErrWordForm, `list all\`: api.ErrWordForm, many(257, " "): api.ErrWordForm, "list" + many(253, " "): api.ErrWordForm,
		many(17, "a "): api.ErrWordMany, "list " + many(16, "a "): api.ErrWordMany,
		many(16, "a "): api.ErrOrderForm, "list " + many(15, "a "): api.ErrOrderMany, "list" + many(252, " "): api.OK, "list # " + many(17, "a "): api.OK, " \tlist\t": api.OK,
	} {
		if o, e := Parse(line); e != want || (o != Order{}) != (want == api.OK) {
			t.Errorf("P16.1: Parse(%.300q) is %.300s", line, told(o, e))
		}
	}
}

func TestWords(t *testing.T) {
	long := many(300, "x")
	for _, x := range []struct {
		o    Order
		want []string
		text string
	}{
		{Order{Verb: AddProxy, Proxy: "a", N: 3}, w("proxy", "add", "a", "3"), "proxy add a 3"},
		{Order{Verb: AddProxy}, w("proxy", "add", "", "0"), `proxy add "" 0`}, {Order{Verb: AddProxy, N: -3}, w("proxy", "add", "", "0"), `proxy add "" 0`}, {Order{Verb: AddProxy, N: math.MinInt}, w("proxy", "add", "", "0"), `proxy add "" 0`},
		{Order{Verb: AddProxy, Proxy: "a", N: 1 << 40}, w("proxy", "add", "a", "1099511627776"), "proxy add a 1099511627776"}, {Order{Verb: AddProxy, Proxy: "a", N: 1<<40 + 1}, w("proxy", "add", "a", "1099511627776"), "proxy add a 1099511627776"}, {Order{Verb: AddProxy, Proxy: "a", N: math.MaxInt}, w("proxy", "add", "a", "1099511627776"), "proxy add a 1099511627776"},
		{Order{Verb: DropProxy, Proxy: "a b"}, w("proxy", "drop", "a b"), `proxy drop "a b"`}, {Order{Verb: On, Proxy: "#"}, w("on", "#"), `on "#"`}, {Order{Verb: Off, Proxy: `"`}, w("off", `"`), `off "\""`}, {Order{Verb: Show, Proxy: `\`}, w("show", `\`), `show "\\"`},
		{Order{Verb: AddToxic, Proxy: "a", Toxic: lag()}, w("toxic", "add", "a", "lag", "latency", "up", "100", "5", "1"), "toxic add a lag latency up 100 5 1"},
		{Order{Verb: SetToxic, Toxic: api.Toxic{Name: "x", Kind: api.Reset, A: 3}}, w("toxic", "set", "", "x", "reset_peer", "down", "0", "3"), `toxic set "" x reset_peer down 0 3`},
		{Order{Verb: DropToxic, Proxy: "a", Name: ""}, w("toxic", "drop", "a", ""), `toxic drop a ""`}, {Order{Verb: DropToxic, Proxy: "a b", Name: "c"}, w("toxic", "drop", "a b", "c"), `toxic drop "a b" c`},
		{Order{Verb: List}, w("list"), "list"}, {Order{Verb: Reset}, w("reset"), "reset"},
		{Order{Verb: List, Proxy: "a", Name: "b", N: 3, Toxic: lag()}, w("list"), "list"}, {Order{Verb: On, Proxy: "a", Name: "b", N: 3, Toxic: api.Toxic{A: -1}}, w("on", "a"), "on a"}, {Order{Verb: AddProxy, Proxy: "a", Name: "b", N: 3, Toxic: lag()}, w("proxy", "add", "a", "3"), "proxy add a 3"}, {Order{Verb: SetToxic, Proxy: "a", Name: "b", N: 3, Toxic: lag()}, w("toxic", "set", "a", "lag", "latency", "up", "100", "5", "1"), "toxic set a lag latency up 100 5 1"},
		{Order{Verb: On, Proxy: "é"}, w("on", "é"), ""}, {Order{Verb: On, Proxy: "a\n"}, w("on", "a\n"), ""}, {Order{Verb: DropToxic, Proxy: "a", Name: "\x00"}, w("toxic", "drop", "a", "\x00"), ""}, {Order{Verb: Show, Proxy: long}, w("show", long), ""}, {Order{Verb: On, Proxy: long[:253]}, w("on", long[:253]), "on " + long[:253]}, {Order{Verb: On, Proxy: long[:254]}, w("on", long[:254]), ""},
		{Order{}, nil, ""}, {Order{Proxy: "a"}, nil, ""}, {Order{Verb: 11, Proxy: "a"}, nil, ""}, {Order{Verb: -1}, nil, ""}, {Order{Verb: math.MaxInt, Toxic: lag()}, nil, ""}, {Order{Verb: math.MinInt}, nil, ""}, {Order{Verb: 1<<32 + 3, Proxy: "a"}, nil, ""},
		{Order{Verb: AddToxic, Proxy: "a"}, nil, ""}, {Order{Verb: SetToxic, Proxy: "a"}, nil, ""}, {Order{Verb: SetToxic, Proxy: "a", Toxic: api.Toxic{Name: "x", Kind: api.Latency, A: 1, B: 2}}, nil, ""}, {Order{Verb: AddToxic, Proxy: "a", Toxic: api.Toxic{Name: "X", Kind: api.Limit}}, nil, ""}, {Order{Verb: AddToxic, Proxy: "a", Toxic: api.Toxic{Name: "x", Kind: api.Limit, Often: 101}}, nil, ""}, {Order{Verb: AddToxic, Proxy: "a", Toxic: api.Toxic{Name: "x y", Kind: api.Limit}}, nil, ""},
	} {
		if got := Words(x.o); !slices.Equal(got, x.want) {
			t.Errorf("P16.2: Words(%.300s) is %.300q, and not %.300q", show(x.o), got, x.want)
		}
		if got := Text(x.o); got != x.text {
			t.Errorf("P16.2: Text(%.300s) is %.300q, and not %.300q", show(x.o), got, x.text)
		}
	}
}

// TestFromWordsOfAllLists holds FromWords to the chapter's words, of all short lists of words that mean something.
func TestFromWordsOfAllLists(t *testing.T) {
	some := w("proxy", "toxic", "add", "drop", "set", "on", "off", "list", "show", "reset", "3", "", "proxy add", "x")
	var see func(l []string, more int)
	see = func(l []string, more int) {
		o, e := FromWords(l)
		if want, we := fromByWords(l); o != want || e != we {
			t.Fatalf("P16.1: FromWords(%q) is %s, and not %s", l, told(o, e), told(want, we))
		}
		if more > 0 {
			for _, word := range some {
				see(append(l[:len(l):len(l)], word), more-1)
			}
		}
	}
	see(nil, 4)
}

// listByChance is a list of words: most often those of a verb and what belongs to it, some of them changed, gone, or twice there.
func listByChance(r *rand.Rand) []string {
	kinds := w("latency", "bandwidth", "slicer", "timeout", "reset_peer", "limit_data", "slow_close", "fly", "Latency")
	names := w("a", "web", "lag", "a b", "", "#", "x\ty", `"`, "A", "3", "on", "é", "abcdefghijklmnopq")
	numbers := w("0", "1", "3", "50", "100", "101", "4096", "4097", "007", "-1", "x", "", "1 ", "1099511627776", "1099511627777")
	pick := func(l []string, right int) string {
		if r.Intn(3) > 0 {
			return l[r.Intn(right)]
		}
		return l[r.Intn(len(l))]
	}
	row := table[1+r.Intn(10)]
	l := append(slices.Clone(row.words), pick(names, 3))
	if row.name {
		l = append(l, pick(names, 3))
	}
	if row.number {
		l = append(l, pick(numbers, 5))
	}
	if row.harm {
		kind := pick(kinds, 7)
		l = append(l, pick(names, 3), kind, pick(w("up", "down", "Up"), 2), pick(numbers, 5), pick(numbers, 4))
		if toxic.Numbers(toxic.Kind(kind)) == 2 != (r.Intn(10) == 0) {
			l = append(l, pick(numbers, 3))
		}
	}
	if !row.proxy && r.Intn(3) > 0 {
		l = l[:len(l)-1]
	}
	switch at := r.Intn(len(l)); r.Intn(12) {
	case 0:
		l = slices.Delete(l, at, at+1)
	case 1:
		l = slices.Insert(l, at, l[at])
	case 2:
		l[at] += pick(w(" ", "\t", "s", " x"), 4)
	}
	return l
}

func TestFromWordsByChance(t *testing.T) {
	r := rand.New(rand.NewSource(16))
	times := map[api.Errno]int{}
	for range 200000 {
		l := listByChance(r)
		o, e := FromWords(l)
		if want, we := fromByWords(l); o != want || e != we {
			t.Fatalf("P16.1: FromWords(%q) is %s, and not %s", l, told(o, e), told(want, we))
		}
		times[e]++
		line := words.Join(l)
		if line == "" && len(l) > 0 {
			continue
		}
		if other, oe := Parse(line); other != o || oe != e {
			t.Fatalf("P16.1: Parse(%q) is %s, and not %s", line, told(other, oe), told(o, e))
		}
	}
	for _, e := range []api.Errno{api.OK, api.ErrOrderForm, api.ErrOrderMany, api.ErrToxicForm, api.ErrToxicKind, api.ErrToxicPart} {
		if times[e] < 500 {
			t.Errorf("chance told %d only %d times", e, times[e])
		}
	}
}

// orderByChance is an order, of which most have words; often with more in it than belongs to its verb.
func orderByChance(r *rand.Rand) Order {
	names := w("a", "web", "", "a b", "#", `"\`, "\t", "A", "list", "é", "\n", many(230, "x"), many(260, "x"))
	numbers := []int{0, 1, 3, 16, 17, 4096, 1 << 40, 1<<40 + 1, -1, math.MinInt, math.MaxInt}
	o := Order{Verb: r.Intn(13) - 1}
	if r.Intn(4) > 0 {
		o.Proxy = names[r.Intn(len(names))]
	}
	if r.Intn(2) > 0 {
		o.Name = names[r.Intn(len(names))]
	}
	if r.Intn(2) > 0 {
		o.N = numbers[r.Intn(len(numbers))]
	}
	if o.Verb == AddToxic || o.Verb == SetToxic || r.Intn(4) == 0 {
		o.Toxic = api.Toxic{Name: names[r.Intn(2+r.Intn(3))], Kind: r.Intn(9), Up: r.Intn(2) == 0, Often: r.Intn(103) - 1, A: numbers[1+r.Intn(4)], B: numbers[r.Intn(3)]}
		if toxic.Numbers(o.Toxic.Kind) == 1 {
			o.Toxic.B = 0
		}
	}
	return o
}

// TestFromWordsOfWords writes orders, and reads them again.
func TestFromWordsOfWords(t *testing.T) {
	r := rand.New(rand.NewSource(163))
	whole, lines := 0, 0
	for range 200000 {
		o := orderByChance(r)
		l := Words(o)
		if want := wordsByWords(o); !slices.Equal(l, want) {
			t.Fatalf("P16.2: Words(%.300s) is %.300q, and not %.300q", show(o), l, want)
		}
		line := Text(o)
		if line != words.Join(l) {
			t.Fatalf("P16.2: Text(%.300s) is %.300q, and not %.300q", show(o), line, words.Join(l))
		}
		if len(l) == 0 {
			continue
		}
		want := strip(o)
		if got, e := FromWords(l); got != want || e != api.OK {
			t.Fatalf("P16.3: of %.300s it is %.300q, and that is %.300s", show(o), l, told(got, e))
		}
		if want == o && tick.Right(o.N) {
			whole++
		}
		if line == "" {
			continue
		}
		lines++
		if got, e := Parse(line); got != want || e != api.OK {
			t.Fatalf("P16.3: of %.300s it is %.300q, and that is %.300s", show(o), line, told(got, e))
		}
	}
	if whole < 5000 || lines < 20000 {
		t.Errorf("chance made only %d orders with nothing but what belongs to them, and %d lines", whole, lines)
	}
}

// TestParsedWrittenParsed parses lines, writes what they ask, and parses that: the line that is written is no longer than the other one.
func TestParsedWrittenParsed(t *testing.T) {
	r := rand.New(rand.NewSource(1630))
	gaps := w(" ", "  ", "\t", " \t ")
	seen := 0
	for range 100000 {
		line := ""
		for _, word := range listByChance(r) {
			if part := words.Join(w(word)); r.Intn(3) > 0 || strings.ContainsAny(part, `"\`) {
				line += part
			} else {
				line += `"` + part + `"`
			}
			line += gaps[r.Intn(len(gaps))]
		}
		o, e := Parse(line)
		if e != api.OK {
			continue
		}
		seen++
		text := Text(o)
		if len(text) > len(line) || text == "" {
			t.Fatalf("P16.3: %q is written %q", line, text)
		}
		if got, e := Parse(text); got != o || e != api.OK || Text(got) != text {
			t.Fatalf("P16.3: %q is %s, written %q, and that is %s", line, told(o, api.OK), text, told(got, e))
		}
	}
	if seen < 20000 {
		t.Errorf("chance made only %d lines that ask something", seen)
	}
}

// TestNoCallPanics calls all of them with anything at all.
func TestNoCallPanics(t *testing.T) {
	r := rand.New(rand.NewSource(1))
	text := func() string {
		b := make([]byte, r.Intn(20))
		r.Read(b)
		return string(b)
	}
	for range 50000 {
		l := slices.Clone(table[r.Intn(11)].words)
		for range r.Intn(9) {
			l = append(l, text())
		}
		o, e := FromWords(l)
		if want, we := fromByWords(l); o != want || e != we {
			t.Fatalf("R1: FromWords(%q) is %s, and not %s", l, told(o, e), told(want, we))
		}
		if o, e := Parse(strings.Join(l, " ")); e != api.OK && o != (Order{}) {
			t.Fatalf("R1: Parse of %q tells an order beside %d", l, e)
		}
		wild := Order{r.Int()>>uint(r.Intn(64)) - 2, text(), text(), r.Int() - r.Int(), api.Toxic{Name: text(), Kind: r.Intn(20) - 5, Often: r.Int() - r.Int(), A: r.Int() - r.Int(), B: r.Int() - r.Int()}}
		if got, want := Words(wild), wordsByWords(wild); !slices.Equal(got, want) {
			t.Fatalf("R1: Words(%.300s) is %q, and not %q", show(wild), got, want)
		}
		Text(wild)
		Changes(wild.Verb)
	}
	if o, e := FromWords(slices.Repeat(w("list"), 1<<20)); o != (Order{}) || e != api.ErrOrderMany {
		t.Errorf("R1: of 2^20 words: %s", told(o, e))
	}
	if o, e := Parse(many(1<<20, "list ")); o != (Order{}) || e != api.ErrWordForm {
		t.Errorf("R1: of a long line: %s", told(o, e))
	}
}

// TestAnswersAreTheCallersOwn writes into answers, and into what was given.
func TestAnswersAreTheCallersOwn(t *testing.T) {
	spoil := func(l []string) {
		l = l[:cap(l)]
		for i := range l {
			l[i] = "spoilt"
		}
	}
	one, two := Verbs(), Verbs()
	want := slices.Clone(one)
	spoil(one)
	if !slices.Equal(two, want) || !slices.Equal(Verbs(), want) {
		t.Errorf("R6: Verbs tells %q", Verbs())
	}
	for verb := AddProxy; verb <= Reset; verb++ {
		o := Order{Verb: verb, Proxy: "a", Name: "b", N: 3, Toxic: lag()}
		l, other := Words(o), Words(o)
		whole := slices.Clone(l)
		spoil(l)
		if !slices.Equal(other, whole) || !slices.Equal(Words(o), whole) || !slices.Equal(Verbs(), want) {
			t.Errorf("R6: of verb %d Words tells %q", verb, Words(o))
		}
		given := append(make([]string, 0, 20), whole...)
		room := slices.Clone(given[:cap(given)])
		read, _ := FromWords(given)
		if !slices.Equal(given[:cap(given)], room) {
			t.Errorf("R5: FromWords made %q of what it was given", given[:cap(given)])
		}
		spoil(given)
		if read != strip(o) {
			t.Errorf("R6: FromWords told %s", show(read))
		}
	}
}

// TestSameCallsTellTheSame has the calls tell twice, with others between them.
func TestSameCallsTellTheSame(t *testing.T) {
	r := rand.New(rand.NewSource(7))
	var lists [][]string
	var first []string
	tell := func(l []string) string {
		o, e := FromWords(l)
		return told(o, e) + fmt.Sprintf("%q %q", Words(o), Text(o))
	}
	for range 3000 {
		l := listByChance(r)
		lists, first = append(lists, l), append(first, tell(l))
	}
	for k := len(lists) - 1; k >= 0; k-- {
		if again := tell(lists[k]); again != first[k] {
			t.Fatalf("R7: of %q it is %s, and then %s", lists[k], first[k], again)
		}
	}
}
