package words

import (
	"fmt"
	"math/rand"
	"regexp"
	"slices"
	"strings"
	"testing"

	"chicane/api"
)

// row is a row of what a call of Split tells.
type row struct {
	line string
	want []string
	at   int
	e    api.Errno
}

// words are the words of a row: none, if there are none.
func words(l ...string) []string { return l }

// many is s so many times.
func many(n int, s string) string { return strings.Repeat(s, n) }

// each is s in a list, so many times.
func each(n int, s string) []string { return slices.Repeat([]string{s}, n) }

// told tells what Split told, so that two are the same if their texts are.
func told(l []string, at int, e api.Errno) string { return fmt.Sprintf("%q %d %d", l, at, e) }

// split is told of Split.
func split(line string) string { return told(Split(line)) }

// mayStand tells whether a line may have that byte.
func mayStand(c byte) bool { return c == 9 || c >= 32 && c <= 126 }

// anyByte is each byte, as a text of its own.
func anyByte() []string {
	var l []string
	for c := range 256 {
		l = append(l, string([]byte{byte(c)}))
	}
	return l
}

// all calls see with each text of at most so many bytes of that alphabet.
func all(alphabet string, most int, see func(s string)) {
	see("")
	if most == 0 {
		return
	}
	for i := range len(alphabet) {
		all(alphabet, most-1, func(s string) { see(alphabet[i:i+1] + s) })
	}
}

// The chapter's words on a line, as patterns of what stands at its start.
var (
	gapRe     = regexp.MustCompile(`^[ \t]+`)
	strangeRe = regexp.MustCompile(`[^\t -~]`)
	bareRe    = regexp.MustCompile(`^[!#-\[\]-~]*`)
	insideRe  = regexp.MustCompile(`^"(?:[\t !#-\[\]-~]|\\\\|\\")*`)
	signRe    = regexp.MustCompile(`\\(.)`)
	plainRe   = regexp.MustCompile(`^[!$-\[\]-~][!#-\[\]-~]*$`)
)

// latin is s with a rune for each of its bytes: a pattern takes these, and places stay what they were as runes.
func latin(s string) string {
	var r []rune
	for i := range len(s) {
		if c := rune(s[i]); c < 128 {
			r = append(r, c)
		} else {
			r = append(r, 127) // as strange as it is
		}
	}
	return string(r)
}

// splitByWords is Split by the words of P15.1, written a second time.
func splitByWords(line string) ([]string, int, api.Errno) {
	if len(line) > 256 {
		return nil, 256, api.ErrWordForm
	}
	var l []string
	rest := latin(line)
	for {
		rest = rest[len(gapRe.FindString(rest)):]
		at := len(line) - len(rest)
		switch {
		case rest == "":
			return l, len(line), api.OK
		case rest[0] == '#':
			if k := strangeRe.FindStringIndex(rest); k != nil {
				return nil, at + k[0], api.ErrWordForm
			}
			return l, len(line), api.OK
		case !mayStand(rest[0]):
			return nil, at, api.ErrWordForm
		case len(l) == 16:
			return nil, at, api.ErrWordMany
		}
		word, long, is := wordByWords(rest)
		if !is {
			return nil, at + long, api.ErrWordForm
		}
		l, rest = append(l, word), rest[long:]
	}
}

// wordByWords is the word that rest begins with, and how many bytes it takes there, or how many stand ahead of what is amiss.
func wordByWords(rest string) (string, int, bool) {
	word := bareRe.FindString(rest)
	long := len(word)
	if rest[0] == '"' {
		inside := insideRe.FindString(rest)
		long = len(inside)
		if long == len(rest) {
			return "", long, false
		}
		if rest[long] == '\\' {
			return "", long + 1, false
		}
		if rest[long] != '"' {
			return "", long, false
		}
		word = signRe.ReplaceAllString(inside[1:], "$1")
		long++
	}
	return word, long, long == len(rest) || strings.ContainsRune(" \t", rune(rest[long]))
}

// joinByWords is Join by the words of P15.2.
func joinByWords(l []string) string {
	if len(l) > 16 {
		return ""
	}
	var parts []string
	for _, word := range l {
		if strangeRe.MatchString(latin(word)) {
			return ""
		}
		if !plainRe.MatchString(word) {
			word = strings.ReplaceAll(word, "\\", "\\\\")
			word = "\"" + strings.ReplaceAll(word, "\"", "\\\"") + "\""
		}
		parts = append(parts, word)
	}
	line := strings.Join(parts, " ")
	if len(line) > 256 {
		return ""
	}
	return line
}

// linesByWords is Lines by the words of P15.3.
func linesByWords(text string) []string {
	l := []string{""}
	for i := range len(text) {
		if text[i] == 10 {
			l = append(l, "")
			continue
		}
		l[len(l)-1] += text[i : i+1]
	}
	for k, s := range l {
		if s != "" && s[len(s)-1] == 13 {
			l[k] = s[:len(s)-1]
		}
	}
	return l
}

func TestExample(t *testing.T) {
	if got := split(`a "b c" # d`); got != told(words("a", "b c"), 11, api.OK) {
		t.Errorf("the first example: %s", got)
	}
	if got := split(`a"b`); got != told(nil, 1, api.ErrWordForm) {
		t.Errorf("the second example: %s", got)
	}
	if Most != 16 {
		t.Errorf("Most is %d", Most)
	}
}

// check holds Split to rows.
func check(t *testing.T, rows []row) {
	t.Helper()
	for _, x := range rows {
		l, at, e := Split(x.line)
		if !slices.Equal(l, x.want) || at != x.at || e != x.e {
			t.Errorf("P15.1: Split(%.300q) is %.300s, and not %.300s", x.line, told(l, at, e), told(x.want, x.at, x.e))
		}
		if e != api.OK && len(l) > 0 {
			t.Errorf("P15.1: Split(%.300q) tells words beside an error", x.line)
		}
	}
}

func TestSplitTellsWords(t *testing.T) {
	check(t, []row{
		{"", nil, 0, api.OK}, {" ", nil, 1, api.OK}, {"\t", nil, 1, api.OK}, {" \t \t", nil, 4, api.OK},
		{"a", words("a"), 1, api.OK}, {" a", words("a"), 2, api.OK}, {"a ", words("a"), 2, api.OK}, {"\ta\t", words("a"), 3, api.OK},
		{"proxy add web 3", words("proxy", "add", "web", "3"), 15, api.OK}, {"  a \t b\t\tc", words("a", "b", "c"), 10, api.OK},
		{"!$%&'()*+,-./:;<=>?@[]^_`{|}~", words("!$%&'()*+,-./:;<=>?@[]^_`{|}~"), 29, api.OK},
		{"a#", words("a#"), 2, api.OK}, {"a#b c##", words("a#b", "c##"), 7, api.OK},
		{"A a A", words("A", "a", "A"), 5, api.OK},
	})
}

func TestSplitTellsQuotedWords(t *testing.T) {
	check(t, []row{
		{`""`, words(""), 2, api.OK}, {`"" ""`, words("", ""), 5, api.OK}, {`"a"`, words("a"), 3, api.OK}, {` "a" `, words("a"), 5, api.OK},
		{`"a b"`, words("a b"), 5, api.OK}, {"\"a\tb\"", words("a\tb"), 5, api.OK}, {`" a "`, words(" a "), 5, api.OK}, {`"  "`, words("  "), 4, api.OK},
		{`"#"`, words("#"), 3, api.OK}, {`"a # b" c`, words("a # b", "c"), 9, api.OK}, {"\"a\"\t\"b\"", words("a", "b"), 7, api.OK},
		{`"\""`, words(`"`), 4, api.OK}, {`"\\"`, words(`\`), 4, api.OK}, {`"\\\""`, words(`\"`), 6, api.OK}, {`"\"\\"`, words(`"\`), 6, api.OK}, {`"\\\\"`, words(`\\`), 6, api.OK},
		{`"a\"b" c`, words(`a"b`, "c"), 8, api.OK}, {`"\"a b\""`, words(`"a b"`), 9, api.OK}, {`"\\" "b"`, words(`\`, "b"), 8, api.OK},
		{`x "y" z`, words("x", "y", "z"), 7, api.OK}, {`"y" x`, words("y", "x"), 5, api.OK},
	})
}

func TestSplitEndsAtARemark(t *testing.T) {
	check(t, []row{
		{"#", nil, 1, api.OK}, {" #", nil, 2, api.OK}, {"# a b", nil, 5, api.OK}, {"#a", nil, 2, api.OK}, {`#a"`, nil, 3, api.OK}, {"##", nil, 2, api.OK},
		{"a #", words("a"), 3, api.OK}, {"a # b", words("a"), 5, api.OK}, {"a\t#b", words("a"), 4, api.OK}, {"a#b #c", words("a#b"), 6, api.OK},
		{`"a" # "`, words("a"), 7, api.OK}, {`"a" #b"c\d"`, words("a"), 11, api.OK}, {`# \`, nil, 3, api.OK}, {"#\t\"\t", nil, 4, api.OK}, {`"# a`, nil, 4, api.ErrWordForm},
		{"a # " + many(20, "w "), words("a"), 44, api.OK}, {many(16, "w ") + "#", each(16, "w"), 33, api.OK}, {many(16, "w ") + "# w w", each(16, "w"), 37, api.OK},
		{"#\x01", nil, 1, api.ErrWordForm}, {"# a\n", nil, 3, api.ErrWordForm}, {"# \"\x7f", nil, 3, api.ErrWordForm}, {"a # é", nil, 4, api.ErrWordForm}, {many(16, "w ") + "# \x80", nil, 34, api.ErrWordForm},
		{"#" + many(255, "x"), nil, 256, api.OK}, {"#" + many(254, "x") + "\r", nil, 255, api.ErrWordForm},
	})
}

func TestSplitRefuses(t *testing.T) {
	check(t, []row{
		{`a"`, nil, 1, api.ErrWordForm}, {`a"b"`, nil, 1, api.ErrWordForm}, {`ab\`, nil, 2, api.ErrWordForm}, {`\`, nil, 0, api.ErrWordForm}, {`\"`, nil, 0, api.ErrWordForm}, {` \a`, nil, 1, api.ErrWordForm}, {`a b\"c`, nil, 3, api.ErrWordForm}, {`a#"`, nil, 2, api.ErrWordForm},
		{`"`, nil, 1, api.ErrWordForm}, {`"a`, nil, 2, api.ErrWordForm}, {`a "`, nil, 3, api.ErrWordForm}, {`"a `, nil, 3, api.ErrWordForm}, {`"a\"`, nil, 4, api.ErrWordForm}, {`"a\\`, nil, 4, api.ErrWordForm}, {`"a\`, nil, 3, api.ErrWordForm}, {`"\`, nil, 2, api.ErrWordForm}, {`"\"`, nil, 3, api.ErrWordForm}, {`"" "`, nil, 4, api.ErrWordForm},
		{`""a`, nil, 2, api.ErrWordForm}, {`"""`, nil, 2, api.ErrWordForm}, {`""""`, nil, 2, api.ErrWordForm}, {`"a"b c`, nil, 3, api.ErrWordForm}, {`"a"#`, nil, 3, api.ErrWordForm}, {`"a"\`, nil, 3, api.ErrWordForm}, {"\"a\"\n", nil, 3, api.ErrWordForm}, {`x "\""y`, nil, 6, api.ErrWordForm},
		{`"\a"`, nil, 2, api.ErrWordForm}, {`"\n"`, nil, 2, api.ErrWordForm}, {`"\ "`, nil, 2, api.ErrWordForm}, {"\"\\\t\"", nil, 2, api.ErrWordForm}, {`"\#"`, nil, 2, api.ErrWordForm}, {`"\\\a"`, nil, 4, api.ErrWordForm}, {"\"\\\x00\"", nil, 2, api.ErrWordForm}, {"\"\\é\"", nil, 2, api.ErrWordForm},
		{"\x00", nil, 0, api.ErrWordForm}, {"\n", nil, 0, api.ErrWordForm}, {"\r", nil, 0, api.ErrWordForm}, {"a\r", nil, 1, api.ErrWordForm}, {"a b\n", nil, 3, api.ErrWordForm}, {"\x1f", nil, 0, api.ErrWordForm}, {"\x7f", nil, 0, api.ErrWordForm}, {"\xff", nil, 0, api.ErrWordForm}, {"é", nil, 0, api.ErrWordForm}, {"aé", nil, 1, api.ErrWordForm}, {"\"é\"", nil, 1, api.ErrWordForm}, {"\u00a0", nil, 0, api.ErrWordForm}, {"\v", nil, 0, api.ErrWordForm}, {"\b", nil, 0, api.ErrWordForm},
		{`a" \x01`, nil, 1, api.ErrWordForm}, {"a\x01\"", nil, 1, api.ErrWordForm}, {"\"a\\b\x01", nil, 3, api.ErrWordForm}, {"\"a\x01", nil, 2, api.ErrWordForm}, {`"a"b\`, nil, 3, api.ErrWordForm},
	})
}

func TestSplitOfManyWords(t *testing.T) {
	sixteen := many(16, "w ")
	check(t, []row{
		{many(15, "w ") + "w", each(16, "w"), 31, api.OK}, {sixteen, each(16, "w"), 32, api.OK}, {sixteen + many(20, " "), each(16, "w"), 52, api.OK}, {many(15, `"" `) + `""`, each(16, ""), 47, api.OK},
		{sixteen + "w", nil, 32, api.ErrWordMany}, {sixteen + "w w w", nil, 32, api.ErrWordMany}, {sixteen + "\t w", nil, 34, api.ErrWordMany}, {many(17, `"" `), nil, 48, api.ErrWordMany},
		{sixteen + `"`, nil, 32, api.ErrWordMany}, {sixteen + `\`, nil, 32, api.ErrWordMany}, {sixteen + `a"`, nil, 32, api.ErrWordMany}, {sixteen + `"a`, nil, 32, api.ErrWordMany}, {sixteen + `""a`, nil, 32, api.ErrWordMany}, {sixteen + `"\a"`, nil, 32, api.ErrWordMany},
		{sixteen + "a\x01", nil, 32, api.ErrWordMany}, {sixteen + "w \x01", nil, 32, api.ErrWordMany}, {sixteen + "w # \xff", nil, 32, api.ErrWordMany},
		{sixteen + "\x01", nil, 32, api.ErrWordForm}, {sixteen + "\x01w", nil, 32, api.ErrWordForm}, {sixteen + "é", nil, 32, api.ErrWordForm}, {sixteen + " \n w", nil, 33, api.ErrWordForm},
		{many(15, "w ") + `w" w`, nil, 31, api.ErrWordForm}, {many(15, "w ") + `"w w w`, nil, 36, api.ErrWordForm}, {`w\ ` + sixteen, nil, 1, api.ErrWordForm}, {many(15, "w ") + `"w"w w`, nil, 33, api.ErrWordForm},
		{many(128, "w "), nil, 32, api.ErrWordMany}, {many(129, "w "), nil, 256, api.ErrWordForm},
	})
	for _, c := range anyByte() { // the first byte of a 17th word, and what stands behind it
		want := told(nil, 32, api.ErrWordMany)
		switch {
		case c == " " || c == "\t" || c == "#":
			want = told(each(16, "w"), 33, api.OK)
		case !mayStand(c[0]):
			want = told(nil, 32, api.ErrWordForm)
		}
		if got := split(sixteen + c); got != want {
			t.Errorf("P15.1: sixteen words and %q: %s, and not %s", c, got, want)
		}
	}
}

func TestSplitOfLongLines(t *testing.T) {
	check(t, []row{
		{many(255, "a"), words(many(255, "a")), 255, api.OK}, {many(256, "a"), words(many(256, "a")), 256, api.OK}, {many(256, " "), nil, 256, api.OK}, {`"` + many(254, " ") + `"`, words(many(254, " ")), 256, api.OK}, {`"` + many(127, `\\`) + `"`, words(many(127, `\`)), 256, api.OK},
		{`"` + many(255, "a"), nil, 256, api.ErrWordForm}, {many(255, " ") + "\x01", nil, 255, api.ErrWordForm}, {many(254, "a") + ` "`, nil, 256, api.ErrWordForm}, {many(255, "a") + `"`, nil, 255, api.ErrWordForm},
		{many(257, "a"), nil, 256, api.ErrWordForm}, {many(257, " "), nil, 256, api.ErrWordForm}, {many(256, "a") + " ", nil, 256, api.ErrWordForm}, {"#" + many(256, "a"), nil, 256, api.ErrWordForm}, {"\x01" + many(256, "a"), nil, 256, api.ErrWordForm}, {`a"` + many(255, "a"), nil, 256, api.ErrWordForm}, {many(1000, "a "), nil, 256, api.ErrWordForm}, {many(1<<20, "\x00"), nil, 256, api.ErrWordForm}, {many(128, "é"), nil, 0, api.ErrWordForm}, {many(129, "é"), nil, 256, api.ErrWordForm},
	})
}

// TestSplitOfAnyByte has each byte at each kind of place.
func TestSplitOfAnyByte(t *testing.T) {
	for _, c := range anyByte() {
		for _, x := range []struct{ ahead, behind string }{
			{"", ""}, {"", "b"}, {" ", ""}, {"a", ""}, {"a", "b"}, {"a ", " b"}, {"a \t", "b"}, {`"`, `"`}, {`"a`, `b"`}, {`"`, ``}, {`"\`, `"`}, {`"\`, ``}, {`"\\`, `"`}, {`"a"`, ``}, {`"a"`, `b`}, {`"a" `, ``}, {"#", ""}, {"a #", " b"}, {"a#", ""}, {"# a #", "\""},
		} {
			line := x.ahead + c + x.behind
			if got, want := split(line), told(splitByWords(line)); got != want {
				t.Fatalf("P15.1: Split(%q) is %s, and not %s", line, got, want)
			}
		}
	}
}

// TestSplitOfAllLines holds Split to the chapter's words, of all short lines of signs that mean something.
func TestSplitOfAllLines(t *testing.T) {
	all("a #\"\\\t\n", 6, func(line string) {
		if got, want := split(line), told(splitByWords(line)); got != want {
			t.Fatalf("P15.1: Split(%q) is %s, and not %s", line, got, want)
		}
	})
}

// byChance is a line of fewer parts than that: most of them harmless, now and then one that may not stand where it does, and any byte.
func byChance(r *rand.Rand, parts int) string {
	harmless := []string{"a ", "b1 ", "web\t", " ", "  ", "\t", `"a b" `, "\"\"\t", `"\\" `, `"\"" `, "x#y "}
	others := []string{"a", "#", " #", `"`, `\`, `\"`, `\\`, `"a b"`, `"a`, `b" `, "\n", "\x01", "\x7f", "é"}
	risk := []int{2, 10, 100}[r.Intn(3)]
	var s strings.Builder
	for range r.Intn(parts) {
		switch {
		case r.Intn(risk) > 0:
			s.WriteString(harmless[r.Intn(len(harmless))])
		case r.Intn(10) == 0:
			s.WriteByte(byte(r.Intn(256)))
		default:
			s.WriteString(others[r.Intn(len(others))])
		}
	}
	return s.String()
}

func TestSplitOfLinesByChance(t *testing.T) {
	r := rand.New(rand.NewSource(15))
	times := map[api.Errno]int{}
	for range 60000 {
		line := byChance(r, 120)
		if got, want := split(line), told(splitByWords(line)); got != want {
			t.Fatalf("P15.1: Split(%.300q) is %.300s, and not %.300s", line, got, want)
		}
		_, _, e := Split(line)
		times[e]++
	}
	for _, e := range []api.Errno{api.OK, api.ErrWordForm, api.ErrWordMany} {
		if times[e] < 2000 {
			t.Errorf("chance told %d only %d times", e, times[e])
		}
	}
}

// TestFirstPlaceCounts has other things stand behind what is amiss.
func TestFirstPlaceCounts(t *testing.T) {
	r := rand.New(rand.NewSource(151))
	seen := 0
	for range 50000 {
		line := byChance(r, 50)
		_, at, e := Split(line)
		if len(line) > 256 || e == api.OK || at == len(line) {
			continue
		}
		seen++
		other := line[:at+1] + byChance(r, 20)
		if len(other) > 256 {
			continue
		}
		if got, want := split(other), told(nil, at, e); got != want {
			t.Fatalf("P15.1: Split(%.300q) is %s, and not %s as of %.300q", other, got, want, line)
		}
	}
	if seen < 1000 {
		t.Errorf("chance has only %d lines", seen)
	}
}

func TestPlain(t *testing.T) {
	for s, want := range map[string]bool{
		"a": true, "A": true, "0": true, "!": true, "~": true, "web-1": true, "a#": true, "a#b": true, "a##": true, "'": true, "/": true, "-": true, "100%": true, "[": true, "]": true, "$": true,
		"": false, "#": false, "#a": false, "##": false, " ": false, "a b": false, " a": false, "a ": false, "\t": false, "a\t": false, `"`: false, `a"`: false, `"a"`: false, `\`: false, `a\`: false, `a\b`: false, `\a`: false,
		"\x00": false, "\n": false, "a\n": false, "a\r": false, "\x1f": false, "\x7f": false, "a\x7f": false, "\x80": false, "\xff": false, "é": false, "aé": false, "a\u00a0": false,
		many(256, "a"): true, many(255, "a") + " ": false, many(300, "a"): true, many(300, "a") + `"`: false,
	} {
		if Plain(s) != want {
			t.Errorf("P15.2: Plain(%.300q) is %v", s, !want)
		}
	}
	for _, c := range anyByte() {
		for _, d := range append(anyByte(), "") {
			if s := c + d; Plain(s) != plainRe.MatchString(latin(s)) {
				t.Fatalf("P15.2: Plain(%q) is %v", s, Plain(s))
			}
		}
	}
}

// TestPlainIsAsItIs holds Plain to what it is for: such a word, and no other one, is written as it is.
func TestPlainIsAsItIs(t *testing.T) {
	all("a# \t\"\\\n", 5, func(s string) {
		l, _, e := Split(s)
		alone := e == api.OK && slices.Equal(l, words(s))
		if Plain(s) != alone {
			t.Fatalf("P15.2: Plain(%q) is %v", s, Plain(s))
		}
		if Plain(s) != (s != "" && Join(words(s)) == s) {
			t.Fatalf("P15.2: Plain(%q) is %v, and it is joined as %q", s, Plain(s), Join(words(s)))
		}
	})
}

func TestJoin(t *testing.T) {
	for _, x := range []struct {
		l    []string
		want string
	}{
		{nil, ""}, {[]string{}, ""}, {words("a"), "a"}, {words("a", "b-1", "c#"), "a b-1 c#"}, {words("proxy", "add", "web", "3"), "proxy add web 3"},
		{words(""), `""`}, {words("", ""), `"" ""`}, {words("", "a"), `"" a`}, {words("a", ""), `a ""`}, {words("a", "", "b"), `a "" b`}, {words(" "), `" "`}, {words("a b"), `"a b"`}, {words("a b", "c", "d e"), `"a b" c "d e"`}, {words("a\tb"), "\"a\tb\""}, {words("\t"), "\"\t\""},
		{words("#"), `"#"`}, {words("#a", "a#"), `"#a" a#`}, {words("a", "#"), `a "#"`},
		{words(`"`), `"\""`}, {words(`\`), `"\\"`}, {words(`a"b`), `"a\"b"`}, {words(`a\b`), `"a\\b"`}, {words(`\"`), `"\\\""`}, {words(`"\`), `"\"\\"`}, {words(`"a b"`), `"\"a b\""`}, {words(`""`), `"\"\""`}, {words(`\\`, "x"), `"\\\\" x`}, {words(`\n`), `"\\n"`},
		{words("\n"), ""}, {words("a", "b\n"), ""}, {words("a\r", "b"), ""}, {words("\x00"), ""}, {words("\x1f"), ""}, {words("\x7f"), ""}, {words("a", "\x80", "b"), ""}, {words("é"), ""}, {words("a b", "é"), ""}, {words("#", "\x01"), ""},
	} {
		if got := Join(x.l); got != x.want {
			t.Errorf("P15.2: Join(%q) is %q, and not %q", x.l, got, x.want)
		}
	}
	for _, c := range anyByte() {
		got, want := Join(words("a"+c)), joinByWords(words("a"+c))
		if got != want || (got == "") == mayStand(c[0]) {
			t.Errorf("P15.2: Join of a and %q is %q, and not %q", c, got, want)
		}
	}
}

func TestJoinOfManyWords(t *testing.T) {
	for _, word := range words("a", "", "a b", `"`) {
		for _, n := range []int{15, 16, 17, 18, 64, 1000} {
			got := Join(each(n, word))
			if want := joinByWords(each(n, word)); got != want || (got == "") != (n > 16) {
				t.Errorf("P15.2: %d words %q: %.300q, and not %.300q", n, word, got, want)
			}
		}
	}
	if got := Join(append(each(16, "a"), "\n")); got != "" {
		t.Errorf("P15.2: 17 words: %q", got)
	}
}

func TestJoinOfLongLines(t *testing.T) {
	fifteen := each(15, many(15, "a"))
	for _, x := range []struct {
		l    []string
		long int // of the line: above 256 there is none
	}{
		{words(many(255, "a")), 255}, {words(many(256, "a")), 256}, {words(many(257, "a")), 257}, {words(many(1000, "a")), 1000}, {words(many(1<<20, "a")), 1 << 20},
		{words(many(253, " ")), 255}, {words(many(254, " ")), 256}, {words(many(255, " ")), 257}, {words(many(256, " ")), 258}, {words(many(126, `"`)), 254}, {words(many(127, `"`)), 256}, {words(many(128, `"`)), 258}, {words(many(127, `\`)), 256}, {words(many(127, `\`) + "a"), 257}, {words(many(252, "a") + `\`), 256}, {words(many(253, "a") + `\`), 257},
		{words(many(127, "a"), many(127, "b")), 255}, {words(many(127, "a"), many(128, "b")), 256}, {words(many(128, "a"), many(128, "b")), 257}, {words("", many(253, "b")), 256}, {words("", many(254, "b")), 257}, {words(many(254, "b"), ""), 257},
		{append(fifteen[:15:15], many(15, "b")), 255}, {append(fifteen[:15:15], many(16, "b")), 256}, {append(fifteen[:15:15], many(17, "b")), 257}, {append(fifteen[:15:15], many(14, " ")), 256}, {append(fifteen[:15:15], many(15, " ")), 257},
	} {
		long := x.long
		if long > 256 {
			long = 0
		}
		if got := Join(x.l); len(got) != long || got != joinByWords(x.l) {
			t.Errorf("P15.2: a line of %d bytes: %d, %.300q", x.long, len(got), got)
		}
	}
}

// inverse holds Split to what Join told of l.
func inverse(t *testing.T, l []string) {
	t.Helper()
	line := Join(l)
	if want := joinByWords(l); line != want {
		t.Fatalf("P15.2: Join(%.300q) is %.300q, and not %.300q", l, line, want)
	}
	if line == "" && len(l) > 0 {
		return
	}
	if got := split(line); got != told(l, len(line), api.OK) {
		t.Fatalf("P15.4: Join(%.300q) is %.300q, and Split of it %.300s", l, line, got)
	}
}

func TestSplitOfJoinOfAllLists(t *testing.T) {
	var some []string
	all("a# \t\"\\\n", 2, func(s string) { some = append(some, s) })
	inverse(t, nil)
	for _, a := range some {
		inverse(t, words(a))
		for _, b := range some {
			inverse(t, words(a, b))
			for _, c := range some {
				inverse(t, words(a, b, c))
			}
		}
	}
	all("a# \t\"\\", 6, func(s string) { inverse(t, words(s)) })
}

func TestSplitOfJoinByChance(t *testing.T) {
	r := rand.New(rand.NewSource(154))
	lines := 0
	for range 40000 {
		var l []string
		for range r.Intn(19) {
			long := 1 + r.Intn(12)
			if r.Intn(40) == 0 {
				long *= 20
			}
			word := make([]byte, r.Intn(long))
			for i := range word {
				word[i] = "abz019#\"\\ \t!~"[r.Intn(13)]
				if r.Intn(2000) == 0 {
					word[i] = byte(r.Intn(256))
				}
			}
			l = append(l, string(word))
		}
		inverse(t, l)
		if Join(l) != "" {
			lines++
		}
	}
	if lines < 10000 {
		t.Errorf("chance made only %d lines", lines)
	}
}

// TestJoinOfSplit joins what was split: the same words, in a line that is no longer.
func TestJoinOfSplit(t *testing.T) {
	r := rand.New(rand.NewSource(155))
	for range 50000 {
		line := byChance(r, 30)
		l, _, e := Split(line)
		if e != api.OK {
			continue
		}
		again := Join(l)
		if got, _, e := Split(again); e != api.OK || !slices.Equal(got, l) || len(again) > len(line) {
			t.Fatalf("P15.4: Split(%.300q) is %.300q, and Join of it %.300q", line, l, again)
		}
	}
}

func TestLines(t *testing.T) {
	for s, want := range map[string][]string{
		"": {""}, "a": {"a"}, "a\n": {"a", ""}, "\n": {"", ""}, "\n\n": {"", "", ""}, "a\nb": {"a", "b"}, "a\nb\n": {"a", "b", ""}, "\na": {"", "a"}, "a\n\nb": {"a", "", "b"},
		"\r": {""}, "a\r": {"a"}, "\r\n": {"", ""}, "a\r\nb": {"a", "b"}, "a\r\nb\r\n": {"a", "b", ""}, "a\r\nb\r": {"a", "b"}, "\r\r": {"\r"}, "a\r\r\nb": {"a\r", "b"}, "\n\r": {"", ""}, "a\n\rb": {"a", "\rb"}, "a\rb": {"a\rb"}, "\ra\r": {"\ra"},
		" a \n\tb\t": {" a ", "\tb\t"}, "a\x00b\né\xff": {"a\x00b", "é\xff"}, "a # b\nc": {"a # b", "c"}, "\"a\nb\"": {"\"a", "b\""}, "a\\\nb": {"a\\", "b"}, "a\u2028b\u0085c": {"a\u2028b\u0085c"}, "a\v\fb": {"a\v\fb"},
		many(300, "x") + "\n": {many(300, "x"), ""},
	} {
		if got := Lines(s); !slices.Equal(got, want) {
			t.Errorf("P15.3: Lines(%.300q) is %.300q, and not %.300q", s, got, want)
		}
	}
	all("a\n\r\"", 7, func(s string) {
		if got, want := Lines(s), linesByWords(s); !slices.Equal(got, want) {
			t.Fatalf("P15.3: Lines(%q) is %q, and not %q", s, got, want)
		}
	})
	for _, c := range anyByte() {
		for _, s := range []string{c, "a" + c + "b", "a" + c, c + "b", c + c, c + "\n" + c + "\r\n"} {
			if got, want := Lines(s), linesByWords(s); !slices.Equal(got, want) {
				t.Errorf("P15.3: Lines(%q) is %q, and not %q", s, got, want)
			}
		}
	}
	if got := Lines(many(100000, "a\r\n")); len(got) != 100001 || got[99999] != "a" || got[100000] != "" {
		t.Errorf("P15.3: of 100000 lines there are %d", len(got))
	}
}

// TestNoCallPanics calls all of them with any bytes at all.
func TestNoCallPanics(t *testing.T) {
	r := rand.New(rand.NewSource(1))
	for range 20000 {
		var l []string
		for range r.Intn(20) {
			b := make([]byte, r.Intn(40))
			r.Read(b)
			l = append(l, string(b))
		}
		s := strings.Join(l, "")
		if got, want := split(s), told(splitByWords(s)); got != want {
			t.Fatalf("R1: Split(%.300q) is %.300s, and not %.300s", s, got, want)
		}
		if got, want := Lines(s), linesByWords(s); !slices.Equal(got, want) {
			t.Fatalf("R1: Lines(%.300q) is %.300q", s, got)
		}
		if Plain(s) != plainRe.MatchString(latin(s)) {
			t.Fatalf("R1: Plain(%.300q) is %v", s, Plain(s))
		}
		inverse(t, l)
	}
}

// TestAnswersAreTheCallersOwn writes into answers, and into what was given.
func TestAnswersAreTheCallersOwn(t *testing.T) {
	spoil := func(l []string) {
		l = l[:cap(l)]
		for i := range l {
			l[i] = "spoilt"
		}
	}
	line := `a "b c" d#`
	want := split(line)
	l, _, _ := Split(line)
	other, _, _ := Split(line)
	spoil(l)
	if got := told(other, len(line), api.OK); got != want || split(line) != want {
		t.Errorf("R6: Split tells %s, and not %s", split(line), want)
	}
	one, two := Lines("a\nb"), Lines("a\nb")
	spoil(one)
	if !slices.Equal(two, words("a", "b")) || !slices.Equal(Lines("a\nb"), two) {
		t.Errorf("R6: Lines tells %q", two)
	}
	given := append(make([]string, 0, 9), "a", "b c", `"`, "")
	whole := slices.Clone(given[:cap(given)])
	joined := Join(given)
	if !slices.Equal(given[:cap(given)], whole) {
		t.Errorf("R5: Join made %q of what it was given", given[:cap(given)])
	}
	spoil(given)
	if joined != `a "b c" "\"" ""` {
		t.Errorf("R6: Join told %q", joined)
	}
}

// TestSameCallsTellTheSame has the calls tell twice, with others between them.
func TestSameCallsTellTheSame(t *testing.T) {
	r := rand.New(rand.NewSource(7))
	var lines, first []string
	tell := func(line string) string {
		l, _, _ := Split(line)
		return fmt.Sprintf("%s %q %v %q", split(line), Join(l), Plain(line), Lines(line))
	}
	for range 2000 {
		line := byChance(r, 30)
		lines, first = append(lines, line), append(first, tell(line))
	}
	for k := len(lines) - 1; k >= 0; k-- {
		if again := tell(lines[k]); again != first[k] {
			t.Fatalf("R7: of %.300q it is %.300s, and then %.300s", lines[k], first[k], again)
		}
	}
}
