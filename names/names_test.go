package names

import (
	"fmt"
	"math"
	"math/rand"
	"slices"
	"sort"
	"strings"
	"testing"

	"chicane/api"
	"chicane/toxic"
)

const top = api.MaxTick

// proxy is one of that name that is on and lets 3 through, with these toxics; off is on no more; most lets so many through.
func proxy(name string, l ...api.Toxic) api.Proxy {
	return api.Proxy{Name: name, On: true, Most: 3, Toxics: l}
}

func off(p api.Proxy) api.Proxy {
	p.On = false
	return p
}

func most(n int, p api.Proxy) api.Proxy {
	p.Most = n
	return p
}

// list is a list of these.
func list(l ...api.Proxy) []api.Proxy { return l }

// of is a toxic of that name and kind, up, and always there; down is it on the other way.
func of(name string, kind, a, b int) api.Toxic {
	return api.Toxic{Name: name, Kind: kind, Up: true, Often: 100, A: a, B: b}
}

func down(x api.Toxic) api.Toxic {
	x.Up = false
	return x
}

func often(n int, x api.Toxic) api.Toxic {
	x.Often = n
	return x
}

// lag and limit are toxics of that name.
func lag(name string) api.Toxic   { return of(name, api.Latency, 100, 5) }
func limit(name string) api.Toxic { return of(name, api.Limit, 7, 0) }

// lags are so many toxics, of the names t0, t1 and so on.
func lags(n int) []api.Toxic {
	var l []api.Toxic
	for k := range n {
		l = append(l, lag(fmt.Sprint("t", k)))
	}
	return l
}

// row is so many proxies, of the names p0, p1 and so on.
func row(n int) []api.Proxy {
	var l []api.Proxy
	for k := range n {
		l = append(l, proxy(fmt.Sprint("p", k), lag("x"), down(limit("y"))))
	}
	return l
}

// text tells all of a list, so that two lists are the same if their texts are.
func text(l []api.Proxy) string {
	var s strings.Builder
	for _, p := range l {
		fmt.Fprintf(&s, "%q %v %d:", p.Name, p.On, p.Most)
		for _, x := range p.Toxics {
			fmt.Fprintf(&s, " %q %d %v %d %d %d,", x.Name, x.Kind, x.Up, x.Often, x.A, x.B)
		}
		s.WriteString("\n")
	}
	return s.String()
}

// like tells whether two lists are the same, part by part.
func like(a, b []api.Proxy) bool {
	if len(a) != len(b) {
		return false
	}
	for k, p := range a {
		q := b[k]
		if p.Name != q.Name || p.On != q.On || p.Most != q.Most || len(p.Toxics) != len(q.Toxics) {
			return false
		}
		for i, x := range p.Toxics {
			if x != q.Toxics[i] {
				return false
			}
		}
	}
	return true
}

// kept is a list like l that shares nothing with it.
func kept(l []api.Proxy) []api.Proxy {
	other := make([]api.Proxy, len(l))
	for k, p := range l {
		other[k] = p
		other[k].Toxics = make([]api.Toxic, len(p.Toxics))
		for i, x := range p.Toxics {
			other[k].Toxics[i] = x
		}
	}
	return other
}

// spoil writes into all that l has, and into what room its lists have behind.
func spoil(l []api.Proxy) {
	l = l[:cap(l)]
	for k := range l {
		spoilToxics(l[k].Toxics)
		l[k] = api.Proxy{Name: "spoilt", Most: 16, Toxics: lags(1)}
	}
}

func spoilToxics(l []api.Toxic) {
	l = l[:cap(l)]
	for i := range l {
		l[i] = limit("spoilt")
	}
}

// namesThatAre and namesThatArent are texts that may be names, and that may not.
func namesThatAre() []string {
	return []string{"a", "z", "0", "9", "_", "-", "web-1_b", "on", "off", "abcdefghijklmno", "abcdefghijklmnop", strings.Repeat("-", 16)}
}

func namesThatArent() []string {
	return []string{"", " ", "a b", " a", "a ", "a\t", "a\n", "\x00", "A", "aB", "a.b", "a/b", "`", "{", ":", "@", "\x7f", "\xff", "é", "ａ", "٣", "abcdefghijklmnopq", strings.Repeat("é", 8), strings.Repeat("x", 1000)}
}

// refusal is a toxic that may not be, and why.
type refusal struct {
	x    api.Toxic
	want api.Errno
}

// wrongToxics are such ones.
func wrongToxics() []refusal {
	return []refusal{
		{api.Toxic{}, api.ErrToxicForm}, {lag(""), api.ErrToxicForm}, {lag("A"), api.ErrToxicForm}, {lag("a b"), api.ErrToxicForm}, {lag("abcdefghijklmnopq"), api.ErrToxicForm}, {often(101, of("A", 9, -1, -1)), api.ErrToxicForm},
		{of("x", api.Pass, 0, 0), api.ErrToxicKind}, {of("x", 8, 1, 1), api.ErrToxicKind}, {of("x", -1, 1, 1), api.ErrToxicKind}, {often(101, of("x", 99, -1, -1)), api.ErrToxicKind},
		{often(-1, lag("x")), api.ErrToxicPart}, {often(101, lag("x")), api.ErrToxicPart}, {of("x", api.Latency, 3, 4), api.ErrToxicPart}, {of("x", api.Latency, -1, 0), api.ErrToxicPart}, {of("x", api.Latency, top+1, 0), api.ErrToxicPart},
		{of("x", api.Bandwidth, 1, 0), api.ErrToxicPart}, {of("x", api.Bandwidth, 1, 4097), api.ErrToxicPart}, {of("x", api.Slicer, 0, 1), api.ErrToxicPart}, {of("x", api.Timeout, 0, 0), api.ErrToxicPart}, {of("x", api.Reset, 0, 0), api.ErrToxicPart}, {of("x", api.Limit, 1, 1), api.ErrToxicPart}, {of("x", api.Slow, 1, 1), api.ErrToxicPart},
	}
}

// checkByWords is Check by the words of P14.1.
func checkByWords(p api.Proxy) api.Errno {
	if !toxic.Name(p.Name) {
		return api.ErrNameForm
	}
	if p.Most < 1 || p.Most > 16 {
		return api.ErrNamePart
	}
	if len(p.Toxics) > 8 {
		return api.ErrNameFull
	}
	times := map[string]int{}
	for _, x := range p.Toxics {
		if e := toxic.Check(x); e != api.OK {
			return e
		}
		times[x.Name]++
	}
	if len(times) < len(p.Toxics) {
		return api.ErrNameThere
	}
	return api.OK
}

// rightByWords is Right by the words of P14.1: rising and each once is what sorting and a set would leave.
func rightByWords(l []api.Proxy) bool {
	set := map[string]int{}
	var names []string
	for _, p := range l {
		if checkByWords(p) != api.OK {
			return false
		}
		set[p.Name]++
		names = append(names, p.Name)
	}
	return len(l) <= 8 && len(set) == len(l) && sort.StringsAreSorted(names)
}

// linesByWords is Lines by the words of P14.3.
func linesByWords(p api.Proxy) []string {
	if checkByWords(p) != api.OK {
		return nil
	}
	l := []string{fmt.Sprintf("%s %s %d %d", p.Name, map[bool]string{true: "on", false: "off"}[p.On], p.Most, len(p.Toxics))}
	for _, x := range p.Toxics {
		l = append(l, toxic.Text(x))
	}
	return l
}

func TestExample(t *testing.T) {
	l, e := Add(nil, "a", 3)
	x, _ := toxic.Parse("lag latency up 100 5 1")
	m, f := AddToxic(l, "a", x)
	if e != api.OK || f != api.OK || len(m) != 1 || !slices.Equal(Lines(m[0]), []string{"a on 3 1", "lag latency up 100 5 1"}) {
		t.Errorf("P14.3: the chapter's example: %d, %d, %v", e, f, m)
	}
}

// P14.1

func TestCheck(t *testing.T) {
	for _, x := range []struct {
		p    api.Proxy
		want api.Errno
	}{
		{api.Proxy{Name: "a", Most: 1}, api.OK},
		{proxy("a"), api.OK},
		{off(proxy("a")), api.OK},
		{most(1, proxy("a")), api.OK},
		{most(16, proxy("a")), api.OK},
		{proxy("a", lag("a")), api.OK},
		{proxy("a", lag("x"), down(limit("y"))), api.OK},
		{proxy("a", lag("ab"), lag("a"), lag("b")), api.OK},
		{proxy("a", lags(8)...), api.OK},
		{api.Proxy{}, api.ErrNameForm},
		{most(0, proxy("A", make([]api.Toxic, 9)...)), api.ErrNameForm},
		{most(0, proxy("a")), api.ErrNamePart},
		{most(17, proxy("a")), api.ErrNamePart},
		{most(-1, proxy("a")), api.ErrNamePart},
		{most(-3, proxy("a")), api.ErrNamePart},
		{most(1<<32+3, proxy("a")), api.ErrNamePart},
		{most(math.MinInt, proxy("a")), api.ErrNamePart},
		{most(math.MaxInt, proxy("a")), api.ErrNamePart},
		{most(17, proxy("a", make([]api.Toxic, 9)...)), api.ErrNamePart},
		{proxy("a", lags(9)...), api.ErrNameFull},
		{proxy("a", make([]api.Toxic, 9)...), api.ErrNameFull},
		{proxy("a", slices.Repeat(lags(1), 9)...), api.ErrNameFull},
		{proxy("a", make([]api.Toxic, 300000)...), api.ErrNameFull},
		{proxy("a", make([]api.Toxic, 1)...), api.ErrToxicForm},
		{proxy("a", make([]api.Toxic, 8)...), api.ErrToxicForm},
		{proxy("a", lag("x"), of("x", 8, 0, 0), lag("")), api.ErrToxicKind},
		{proxy("a", lag("x"), often(101, lag("x")), of("x", 8, 0, 0), lag("")), api.ErrToxicPart},
		{proxy("a", lag("x"), lag("x"), lag("A")), api.ErrToxicForm},
		{proxy("a", lag("x"), lag("x")), api.ErrNameThere},
		{proxy("a", lag("x"), down(limit("x"))), api.ErrNameThere},
		{proxy("a", lag("x"), lag("y"), lag("x")), api.ErrNameThere},
		{proxy("a", append(lags(7), limit("t0"))...), api.ErrNameThere},
		{proxy("a", append(lags(7), limit("t6"))...), api.ErrNameThere},
	} {
		if e := Check(x.p); e != x.want {
			t.Errorf("P14.1: Check of %.300q is %d, not %d", text(list(x.p)), e, x.want)
		}
	}
}

func TestCheckOfNames(t *testing.T) {
	for _, name := range namesThatAre() {
		if e := Check(proxy(name)); e != api.OK {
			t.Errorf("P14.1: Check of the name %q is %d", name, e)
		}
	}
	for _, name := range namesThatArent() {
		if e := Check(proxy(name)); e != api.ErrNameForm {
			t.Errorf("P14.1: Check of the name %.40q is %d", name, e)
		}
	}
}

func TestCheckOfEachMost(t *testing.T) {
	for n := -300; n <= 300; n++ {
		want := api.ErrNamePart
		if n >= 1 && n <= 16 {
			want = api.OK
		}
		if e := Check(most(n, proxy("a"))); e != want {
			t.Errorf("P14.1: Check of the Most %d is %d, not %d", n, e, want)
		}
	}
}

func TestCheckOfToxics(t *testing.T) {
	for _, w := range wrongToxics() {
		for n := range 8 {
			for at := range n + 1 {
				l := slices.Insert(lags(n), at, w.x)
				if e := Check(proxy("a", l...)); e != w.want {
					t.Errorf("P14.1: Check of the toxics %v is %d, not %d", l, e, w.want)
				}
			}
		}
	}
	for n := range 9 { // each two of them by one name
		for i := range n {
			for k := range i {
				l := lags(n)
				l[i] = down(limit(l[k].Name))
				if e := Check(proxy("a", l...)); e != api.ErrNameThere {
					t.Errorf("P14.1: Check of the toxics %v is %d", l, e)
				}
			}
		}
	}
}

// eachProxy calls do with proxies that may be, and that may not, in each of their parts.
func eachProxy(do func(p api.Proxy)) {
	toxics := [][]api.Toxic{nil, {}, lags(1), lags(2), lags(7), lags(8), lags(9), make([]api.Toxic, 9), {lag("x"), limit("x")}, {lag("x"), down(limit("y")), lag("x")}}
	for _, w := range wrongToxics() {
		toxics = append(toxics, []api.Toxic{w.x}, []api.Toxic{lag("x"), w.x}, []api.Toxic{lag("v"), lag("v"), w.x}, []api.Toxic{w.x, {}})
	}
	for _, name := range append(namesThatAre(), namesThatArent()...) {
		for _, n := range []int{math.MinInt, -1, 0, 1, 2, 15, 16, 17, 256, 1<<32 + 1, math.MaxInt} {
			for _, l := range toxics {
				do(api.Proxy{Name: name, On: n%2 == 0, Most: n, Toxics: l})
			}
		}
	}
}

func TestCheckTellsTheFirst(t *testing.T) {
	told := map[api.Errno]int{}
	eachProxy(func(p api.Proxy) {
		want := checkByWords(p)
		told[want]++
		before := text(list(p))
		if e := Check(p); e != want {
			t.Fatalf("P14.1: Check of %.300q is %d, not %d", before, e, want)
		}
		if text(list(p)) != before {
			t.Fatalf("R5: Check changed %.300q", before)
		}
		if is := Right(list(p)); is != (want == api.OK) {
			t.Fatalf("P14.1: Right of %.300q alone is %v", before, is)
		}
	})
	if len(told) != 8 {
		t.Errorf("P14.1: of these proxies are told %v alone", told)
	}
}

func TestRight(t *testing.T) {
	for _, l := range [][]api.Proxy{
		nil, {}, list(proxy("a")), list(proxy("a"), proxy("b")), list(proxy("a"), off(most(16, proxy("b", lags(8)...)))), row(7), row(8),
		list(proxy("-"), proxy("0"), proxy("9"), proxy("_"), proxy("a"), proxy("z")),
		list(proxy("a"), proxy("a-"), proxy("a0"), proxy("a_"), proxy("aa"), proxy("b")),
		list(proxy("1"), proxy("10"), proxy("2")),
	} {
		if !Right(l) {
			t.Errorf("P14.1: Right of %q is false", text(l))
		}
	}
	for _, l := range wrongLists() {
		if Right(l) {
			t.Errorf("P14.1: Right of %.300q is true", text(l))
		}
	}
}

// wrongLists are lists that are no right registries: of these some are no registries at all, and in some a proxy may not be.
func wrongLists() [][]api.Proxy {
	l := [][]api.Proxy{
		list(proxy("a"), proxy("a")), list(proxy("b"), proxy("a")), list(proxy("a"), off(most(1, proxy("a", lag("x"))))),
		list(proxy("a"), proxy("b"), proxy("b")), list(proxy("a"), proxy("b"), proxy("a")), list(proxy("a"), proxy("c"), proxy("b")), list(proxy("b"), proxy("a"), proxy("c")),
		list(proxy("2"), proxy("10")), list(proxy("a"), proxy("_")), list(proxy("0"), proxy("-")), list(proxy("b"), proxy("aa")), list(proxy("aa"), proxy("a")),
		row(9), make([]api.Proxy, 1), make([]api.Proxy, 9), slices.Repeat(row(8), 1000),
	}
	var wrong []api.Proxy
	for _, w := range wrongToxics() {
		wrong = append(wrong, proxy("b", w.x), proxy("b", lag("v"), w.x))
	}
	wrong = append(wrong, most(0, proxy("b")), most(17, proxy("b")), most(-3, proxy("b")), proxy("b", lags(9)...), proxy("b", lag("x"), limit("x")), api.Proxy{Name: "b"})
	for _, p := range wrong {
		l = append(l, list(p), list(proxy("a"), p), list(p, proxy("c")), list(proxy("a"), p, proxy("c")), list(p, proxy("a")))
	}
	for _, name := range namesThatArent() {
		l = append(l, list(proxy(name)), list(proxy("-"), proxy(name)), list(proxy(name), proxy("z")))
	}
	return l
}

// TestRightOfEachOrder: of all ways to put up to four of six names in a row, also more than once.
func TestRightOfEachOrder(t *testing.T) {
	six := []string{"-", "a", "a1", "aa", "b", "_"}
	rows, right := [][]api.Proxy{nil}, 0
	for k := 0; k < len(rows); k++ {
		l := rows[k]
		if got := Right(l); got != rightByWords(l) {
			t.Errorf("P14.1: Right of %q is %v", text(l), got)
		} else if got {
			right++
		}
		for _, name := range six {
			if len(l) < 4 {
				rows = append(rows, append(kept(l), proxy(name)))
			}
		}
	}
	if len(rows) != 1555 || right != 57 { // 1 + 6 + 15 + 20 + 15
		t.Errorf("P14.1: %d of %d rows are right", right, len(rows))
	}
}

func TestFind(t *testing.T) {
	three := list(off(proxy("a", lag("x"))), most(16, proxy("b")), proxy("c", lag("x"), down(limit("y"))))
	odd := list(proxy("b", lag("x")), proxy("a"), off(proxy("b")), api.Proxy{}, most(17, proxy("A b", lags(9)...)), most(-1, proxy("")))
	for _, x := range []struct {
		l    []api.Proxy
		name string
		at   int
	}{
		{three, "a", 0}, {three, "b", 1}, {three, "c", 2}, {three, "", -1}, {three, "d", -1}, {three, "A", -1}, {three, "aa", -1}, {three, "x", -1}, {three, "a\x00", -1}, {three, strings.Repeat("a", 100000), -1},
		{nil, "a", -1}, {nil, "", -1}, {list(), "a", -1},
		// Of any list, be it no registry, and of any text, be it no name.
		{odd, "b", 0}, {odd, "a", 1}, {odd, "", 3}, {odd, "A b", 4}, {odd, "A", -1}, {odd, "a b", -1},
		{slices.Repeat(list(proxy("b")), 1000), "b", 0}, {append(slices.Repeat(list(proxy("b")), 1000), proxy("a", lag("x"))), "a", 1000},
	} {
		before := text(x.l)
		p, is := Find(x.l, x.name)
		want := list(api.Proxy{})
		if x.at >= 0 {
			want = x.l[x.at : x.at+1]
		}
		if is != (x.at >= 0) || text(list(p)) != text(want) {
			t.Errorf("P14.1: Find of %.40q in %.300q is %.300q, %v", x.name, before, text(list(p)), is)
		}
		if !is && p.Toxics != nil {
			t.Errorf("R1: Find of %.40q in %.300q tells toxics", x.name, before)
		}
		spoilToxics(p.Toxics)
		if text(x.l) != before {
			t.Errorf("R6: what Find of %.40q told is a part of %.300q", x.name, before)
		}
	}
}

func TestFindKeepsNothing(t *testing.T) {
	l := row(3)
	p, _ := Find(l, "p1")
	spoil(l)
	if text(list(p)) != text(row(3)[1:2]) {
		t.Errorf("R6: what Find told was changed into %v", p)
	}
}

func TestSame(t *testing.T) {
	full := proxy("b", lag("x"), down(limit("y")))
	with := func(change func(x *api.Toxic)) []api.Proxy {
		l := kept(list(proxy("a"), full))
		change(&l[1].Toxics[0])
		return l
	}
	others := [][]api.Proxy{ // each unlike all others
		nil, list(proxy("a")), list(full), list(proxy("a"), full), list(full, proxy("a")), list(proxy("a"), full, full), list(proxy("a"), proxy("a")), list(proxy("a"), full, proxy("c")),
		list(proxy("a"), proxy("b")), list(proxy("a"), proxy("b", lag("x"))), list(proxy("a"), proxy("b", down(limit("y")))), list(proxy("a"), proxy("b", down(limit("y")), lag("x"))), list(proxy("a"), proxy("b", lag("x"), down(limit("y")), limit("z"))),
		list(proxy("a"), off(full)), list(off(proxy("a")), full), list(proxy("a"), most(4, full)), list(most(2, proxy("a")), full), list(proxy("c"), full), list(proxy("a", lag("x")), full), list(proxy(""), full), list(proxy("a"), proxy("B", lag("x"), down(limit("y")))),
		with(func(x *api.Toxic) { x.Name = "z" }), with(func(x *api.Toxic) { x.Kind = api.Slicer }), with(func(x *api.Toxic) { x.Up = false }), with(func(x *api.Toxic) { x.Often = 99 }), with(func(x *api.Toxic) { x.A++ }), with(func(x *api.Toxic) { x.B-- }), with(func(x *api.Toxic) { *x = api.Toxic{} }),
		make([]api.Proxy, 1), make([]api.Proxy, 9), row(9), list(most(math.MinInt, proxy("a")), full), list(proxy("a", make([]api.Toxic, 9)...), full), list(proxy("a", make([]api.Toxic, 10)...), full),
	}
	for i, a := range others {
		for k, b := range others {
			b = kept(b)
			beforeA, beforeB := text(a), text(b)
			if is := Same(a, b); is != (i == k) {
				t.Errorf("P14.1: Same of %q and %q is %v", beforeA, beforeB, is)
			}
			if text(a) != beforeA || text(b) != beforeB {
				t.Errorf("R5: Same changed %q or %q", beforeA, beforeB)
			}
		}
	}
	if !Same(nil, list()) || !Same(list(), nil) || !Same(list(proxy("a")), list(proxy("a", []api.Toxic{}...))) || !Same(list(api.Proxy{Toxics: []api.Toxic{}}), list(api.Proxy{})) {
		t.Error("R3: an empty list and none are not the same")
	}
}

// P14.2 and P14.3

// model is a right registry by the words of the chapter: what its proxies are, by their names.
type model map[string]*entry

type entry struct {
	on     bool
	most   int
	toxics []api.Toxic
}

// begun is the model of a right registry.
func begun(l []api.Proxy) model {
	m := model{}
	for _, p := range kept(l) {
		m[p.Name] = &entry{p.On, p.Most, p.Toxics}
	}
	return m
}

// list is the registry itself.
func (m model) list() []api.Proxy {
	names := []string{}
	for name := range m {
		names = append(names, name)
	}
	sort.Strings(names)
	var l []api.Proxy
	for _, name := range names {
		l = append(l, api.Proxy{Name: name, On: m[name].on, Most: m[name].most, Toxics: m[name].toxics})
	}
	return kept(l)
}

// at is which of its toxics has that name; -1, if there is none.
func (y *entry) at(name string) int {
	for k := range y.toxics {
		if y.toxics[k].Name == name {
			return k
		}
	}
	return -1
}

// thing is one that may be done to a registry, and what the chapter's words say of it, which they do to the model of it.
type thing struct {
	promise, what string
	do            func(l []api.Proxy) ([]api.Proxy, api.Errno)
	words         func(m model) api.Errno
}

// add, drop, swap, addToxic, dropToxic, setToxic and reset are to do that.
func add(name string, most int) thing {
	return thing{"P14.2", fmt.Sprintf("Add(%.40q, %d)", name, most),
		func(l []api.Proxy) ([]api.Proxy, api.Errno) { return Add(l, name, most) },
		func(m model) api.Errno {
			switch {
			case !toxic.Name(name):
				return api.ErrNameForm
			case m[name] != nil:
				return api.ErrNameThere
			case most < 1 || most > 16:
				return api.ErrNamePart
			case len(m) == 8:
				return api.ErrNameFull
			}
			m[name] = &entry{on: true, most: most}
			return api.OK
		}}
}

func drop(name string) thing {
	return thing{"P14.2", fmt.Sprintf("Drop(%.40q)", name),
		func(l []api.Proxy) ([]api.Proxy, api.Errno) { return Drop(l, name) },
		func(m model) api.Errno {
			if m[name] == nil {
				return api.ErrNameNone
			}
			delete(m, name)
			return api.OK
		}}
}

func swap(name string, on bool) thing {
	return thing{"P14.2", fmt.Sprintf("Switch(%.40q, %v)", name, on),
		func(l []api.Proxy) ([]api.Proxy, api.Errno) { return Switch(l, name, on) },
		func(m model) api.Errno {
			if m[name] == nil {
				return api.ErrNameNone
			}
			m[name].on = on
			return api.OK
		}}
}

func addToxic(name string, x api.Toxic) thing {
	return thing{"P14.3", fmt.Sprintf("AddToxic(%.40q, %v)", name, x),
		func(l []api.Proxy) ([]api.Proxy, api.Errno) { return AddToxic(l, name, x) },
		func(m model) api.Errno {
			y, e := m[name], toxic.Check(x)
			switch {
			case y == nil:
				return api.ErrNameNone
			case e != api.OK:
				return e
			case y.at(x.Name) >= 0:
				return api.ErrNameThere
			case len(y.toxics) == 8:
				return api.ErrNameFull
			}
			y.toxics = append(y.toxics, x)
			return api.OK
		}}
}

func dropToxic(name, its string) thing {
	return thing{"P14.3", fmt.Sprintf("DropToxic(%.40q, %.40q)", name, its),
		func(l []api.Proxy) ([]api.Proxy, api.Errno) { return DropToxic(l, name, its) },
		func(m model) api.Errno {
			y := m[name]
			if y == nil || y.at(its) == -1 {
				return api.ErrNameNone
			}
			var rest []api.Toxic
			for _, x := range y.toxics {
				if x.Name != its {
					rest = append(rest, x)
				}
			}
			y.toxics = rest
			return api.OK
		}}
}

func setToxic(name string, x api.Toxic) thing {
	return thing{"P14.3", fmt.Sprintf("SetToxic(%.40q, %v)", name, x),
		func(l []api.Proxy) ([]api.Proxy, api.Errno) { return SetToxic(l, name, x) },
		func(m model) api.Errno {
			y, e := m[name], toxic.Check(x)
			switch {
			case y == nil:
				return api.ErrNameNone
			case e != api.OK:
				return e
			case y.at(x.Name) == -1:
				return api.ErrNameNone
			}
			was := &y.toxics[y.at(x.Name)]
			if was.Kind != x.Kind || was.Up != x.Up {
				return api.ErrToxicKind
			}
			*was = x
			return api.OK
		}}
}

func reset() thing {
	return thing{"P14.3", "Reset",
		func(l []api.Proxy) ([]api.Proxy, api.Errno) { return Reset(l), api.OK },
		func(m model) api.Errno {
			for _, y := range m {
				y.on, y.toxics = true, nil
			}
			return api.OK
		}}
}

// says is one thing, done to a registry, its error, and the lines of all proxies then, with a byte 10 between two.
type says struct {
	do   thing
	l    []api.Proxy
	e    api.Errno
	want string
}

// lined are the lines of all proxies.
func lined(l []api.Proxy) string {
	var lines []string
	for _, p := range l {
		lines = append(lines, Lines(p)...)
	}
	return strings.Join(lines, "\n")
}

// rows does each of these, and complains if another thing is told than is written here.
func rows(t *testing.T, l []says) {
	t.Helper()
	for _, x := range l {
		before := text(x.l)
		m, e := x.do.do(x.l)
		if e != x.e || lined(m) != x.want {
			t.Errorf("%s: %s of %q is %d, %q, not %d, %q", x.do.promise, x.do.what, before, e, lined(m), x.e, x.want)
		}
		if e != api.OK && text(m) != before {
			t.Errorf("R2: %s of %q is %q, with %d", x.do.what, before, text(m), e)
		}
		if text(x.l) != before {
			t.Errorf("R5: %s changed %q into %q", x.do.what, before, text(x.l))
		}
	}
}

func TestAdd(t *testing.T) {
	two := list(off(proxy("b", lag("x"))), most(16, proxy("d")))
	was := "b off 3 1\nx latency up 100 100 5\nd on 16 0"
	rows(t, []says{
		{add("a", 1), nil, api.OK, "a on 1 0"},
		{add("a", 16), list(), api.OK, "a on 16 0"},
		{add("abcdefghijklmnop", 2), nil, api.OK, "abcdefghijklmnop on 2 0"},
		{add("a", 2), two, api.OK, "a on 2 0\n" + was},
		{add("c", 2), two, api.OK, "b off 3 1\nx latency up 100 100 5\nc on 2 0\nd on 16 0"},
		{add("e", 2), two, api.OK, was + "\ne on 2 0"},
		{add("x", 2), two, api.OK, was + "\nx on 2 0"},
		{add("-", 2), two, api.OK, "- on 2 0\n" + was},
		{add("_", 2), two, api.OK, "_ on 2 0\n" + was},
		{add("bb", 2), two, api.OK, "b off 3 1\nx latency up 100 100 5\nbb on 2 0\nd on 16 0"},
		{add("10", 2), list(proxy("1"), proxy("2")), api.OK, "1 on 3 0\n10 on 2 0\n2 on 3 0"},
		{add("b", 2), two, api.ErrNameThere, was},
		{add("d", 0), two, api.ErrNameThere, was},
		{add("B", 2), two, api.ErrNameForm, was},
		{add("", 0), two, api.ErrNameForm, was},
		{add("abcdefghijklmnopq", 2), two, api.ErrNameForm, was},
		{add("c", 0), two, api.ErrNamePart, was},
		{add("c", 17), two, api.ErrNamePart, was},
		{add("c", -1), two, api.ErrNamePart, was},
		{add("c", 1<<32+1), two, api.ErrNamePart, was},
		{add("c", math.MinInt), two, api.ErrNamePart, was},
		{add("c", math.MaxInt), two, api.ErrNamePart, was},
		{add("z", 1), row(7), api.OK, lined(row(7)) + "\nz on 1 0"},
		{add("z", 1), row(8), api.ErrNameFull, lined(row(8))},
		{add("a", 16), row(8), api.ErrNameFull, lined(row(8))},
		{add("z", 0), row(8), api.ErrNamePart, lined(row(8))},
		{add("p3", 0), row(8), api.ErrNameThere, lined(row(8))},
		{add("Z", 0), row(8), api.ErrNameForm, lined(row(8))},
	})
}

func TestDropAndSwitch(t *testing.T) {
	three := list(off(proxy("a", lag("x"))), most(16, proxy("b")), proxy("c", limit("x")))
	a, b, c := "a off 3 1\nx latency up 100 100 5\n", "b on 16 0\n", "c on 3 1\nx limit_data up 100 7"
	l := []says{
		{drop("a"), three, api.OK, b + c},
		{drop("b"), three, api.OK, a + c},
		{drop("c"), three, api.OK, a + "b on 16 0"},
		{drop("a"), list(proxy("a")), api.OK, ""},
		{drop("p0"), row(8), api.OK, lined(row(8)[1:])},
		{swap("a", true), three, api.OK, "a on 3 1\nx latency up 100 100 5\n" + b + c},
		{swap("a", false), three, api.OK, a + b + c},
		{swap("b", true), three, api.OK, a + b + c},
		{swap("b", false), three, api.OK, a + "b off 16 0\n" + c},
		{swap("c", false), three, api.OK, a + b + "c off 3 1\nx limit_data up 100 7"},
		{drop("a"), nil, api.ErrNameNone, ""},
		{swap("a", true), nil, api.ErrNameNone, ""},
		{drop(""), list(), api.ErrNameNone, ""},
	}
	for _, name := range append(namesThatArent(), "d", "aa", "x", "-") {
		l = append(l, says{drop(name), three, api.ErrNameNone, a + b + c}, says{swap(name, true), three, api.ErrNameNone, a + b + c}, says{swap(name, false), three, api.ErrNameNone, a + b + c})
	}
	rows(t, l)
}

func TestAddToxic(t *testing.T) {
	two := list(off(proxy("a", lag("x"), down(limit("y")))), proxy("b"))
	a, b := "a off 3 2\nx latency up 100 100 5\ny limit_data down 100 7\n", "b on 3 0"
	full := list(proxy("a", lags(8)...), proxy("b", lags(7)...))
	l := []says{
		{addToxic("a", limit("z")), two, api.OK, "a off 3 3\nx latency up 100 100 5\ny limit_data down 100 7\nz limit_data up 100 7\n" + b},
		{addToxic("a", down(often(0, lag("a")))), two, api.OK, "a off 3 3\nx latency up 100 100 5\ny limit_data down 100 7\na latency down 0 100 5\n" + b},
		{addToxic("b", lag("x")), two, api.OK, a + "b on 3 1\nx latency up 100 100 5"},
		{addToxic("b", of("-", api.Slow, top, 0)), two, api.OK, a + "b on 3 1\n- slow_close up 100 1099511627776"},
		{addToxic("a", lag("x")), two, api.ErrNameThere, a + b},
		{addToxic("a", down(limit("x"))), two, api.ErrNameThere, a + b},
		{addToxic("a", lag("y")), two, api.ErrNameThere, a + b},
		{addToxic("b", lag("a")), full, api.OK, lined(full[:1]) + "\nb on 3 8\n" + strings.Join(Lines(full[1])[1:], "\n") + "\na latency up 100 100 5"},
		{addToxic("a", lag("a")), full, api.ErrNameFull, lined(full)},
		{addToxic("a", down(limit("a"))), full, api.ErrNameFull, lined(full)},
		{addToxic("a", limit("t7")), full, api.ErrNameThere, lined(full)},
		{addToxic("a", lag("x")), nil, api.ErrNameNone, ""},
	}
	for _, w := range wrongToxics() {
		l = append(l, says{addToxic("a", w.x), two, w.want, a + b}, says{addToxic("b", w.x), two, w.want, a + b}, says{addToxic("a", w.x), full, w.want, lined(full)}, says{addToxic("c", w.x), two, api.ErrNameNone, a + b})
	}
	for _, name := range append(namesThatArent(), "c", "aa", "x") {
		l = append(l, says{addToxic(name, lag("z")), two, api.ErrNameNone, a + b}, says{addToxic(name, lag("x")), two, api.ErrNameNone, a + b})
	}
	rows(t, l)
}

func TestDropToxic(t *testing.T) {
	two := list(off(proxy("a", lag("x"), down(limit("y")), of("z", api.Slow, 1, 0))), proxy("b", lag("y")))
	x, y, z, b := "x latency up 100 100 5\n", "y limit_data down 100 7\n", "z slow_close up 100 1\n", "b on 3 1\ny latency up 100 100 5"
	l := []says{
		{dropToxic("a", "x"), two, api.OK, "a off 3 2\n" + y + z + b},
		{dropToxic("a", "y"), two, api.OK, "a off 3 2\n" + x + z + b},
		{dropToxic("a", "z"), two, api.OK, "a off 3 2\n" + x + y + b},
		{dropToxic("b", "y"), two, api.OK, "a off 3 3\n" + x + y + z + "b on 3 0"},
		{dropToxic("b", "x"), two, api.ErrNameNone, lined(two)},
		{dropToxic("c", "x"), two, api.ErrNameNone, lined(two)},
		{dropToxic("", ""), two, api.ErrNameNone, lined(two)},
		{dropToxic("a", "x"), nil, api.ErrNameNone, ""},
		{dropToxic("a", "x"), list(proxy("a")), api.ErrNameNone, "a on 3 0"},
	}
	for _, its := range append(namesThatArent(), "a", "b", "xx", "-") {
		l = append(l, says{dropToxic("a", its), two, api.ErrNameNone, lined(two)})
	}
	rows(t, l)
}

func TestSetToxic(t *testing.T) {
	two := list(off(proxy("a", lag("x"), down(limit("y")), of("z", api.Slow, 1, 0))), proxy("b", of("y", api.Latency, 9, 9)))
	x, y, z, b := "x latency up 100 100 5\n", "y limit_data down 100 7\n", "z slow_close up 100 1\n", "b on 3 1\ny latency up 100 9 9"
	was := "a off 3 3\n" + x + y + z + b
	l := []says{
		{setToxic("a", often(50, of("x", api.Latency, 20, 0))), two, api.OK, "a off 3 3\nx latency up 50 20 0\n" + y + z + b},
		{setToxic("a", lag("x")), two, api.OK, was},
		{setToxic("a", down(of("y", api.Limit, 0, 0))), two, api.OK, "a off 3 3\n" + x + "y limit_data down 100 0\n" + z + b},
		{setToxic("a", often(0, of("z", api.Slow, top, 0))), two, api.OK, "a off 3 3\n" + x + y + "z slow_close up 0 1099511627776\n" + b},
		{setToxic("b", of("y", api.Latency, 1, 1)), two, api.OK, "a off 3 3\n" + x + y + z + "b on 3 1\ny latency up 100 1 1"},
		{setToxic("a", down(lag("x"))), two, api.ErrToxicKind, was},
		{setToxic("a", limit("x")), two, api.ErrToxicKind, was},
		{setToxic("a", down(limit("x"))), two, api.ErrToxicKind, was},
		{setToxic("a", limit("y")), two, api.ErrToxicKind, was},
		{setToxic("a", down(of("y", api.Slow, 7, 0))), two, api.ErrToxicKind, was},
		{setToxic("a", lag("y")), two, api.ErrToxicKind, was},
		{setToxic("b", lag("x")), two, api.ErrNameNone, was},
		{setToxic("a", lag("w")), two, api.ErrNameNone, was},
		{setToxic("a", lag("a")), two, api.ErrNameNone, was},
		{setToxic("c", lag("x")), two, api.ErrNameNone, was},
		{setToxic("a", lag("x")), nil, api.ErrNameNone, ""},
		{setToxic("a", lag("x")), list(proxy("a")), api.ErrNameNone, "a on 3 0"},
	}
	for _, w := range wrongToxics() {
		l = append(l, says{setToxic("a", w.x), two, w.want, was}, says{setToxic("b", w.x), two, w.want, was}, says{setToxic("c", w.x), two, api.ErrNameNone, was})
	}
	for _, name := range append(namesThatArent(), "c", "aa", "x") {
		l = append(l, says{setToxic(name, lag("x")), two, api.ErrNameNone, was})
	}
	rows(t, l)
}

func TestReset(t *testing.T) {
	rows(t, []says{
		{reset(), nil, api.OK, ""},
		{reset(), list(), api.OK, ""},
		{reset(), list(proxy("a")), api.OK, "a on 3 0"},
		{reset(), list(off(proxy("a"))), api.OK, "a on 3 0"},
		{reset(), list(off(most(1, proxy("a", lags(8)...))), proxy("b", lag("x")), most(16, proxy("c"))), api.OK, "a on 1 0\nb on 3 0\nc on 16 0"},
		{reset(), row(8), api.OK, "p0 on 3 0\np1 on 3 0\np2 on 3 0\np3 on 3 0\np4 on 3 0\np5 on 3 0\np6 on 3 0\np7 on 3 0"},
	})
}

// things are some of each call, for registries of the proxies a, b and c, and of the toxics x, y and z.
func things() []thing {
	return []thing{
		add("a", 1), add("c", 16), add("B", 0), add("c", 17),
		drop("a"), drop("b"), drop("A"), swap("a", true), swap("a", false), swap("b", false), swap("d", false),
		addToxic("a", lag("x")), addToxic("a", down(limit("y"))), addToxic("b", limit("x")), addToxic("b", of("z", api.Slicer, 1, 0)), addToxic("a", of("y", 8, 0, 0)), addToxic("d", lag("X")),
		dropToxic("a", "x"), dropToxic("b", "x"), dropToxic("b", "y"), dropToxic("d", "x"),
		setToxic("a", of("x", api.Latency, 1, 1)), setToxic("b", of("x", api.Limit, 0, 0)), setToxic("a", down(of("x", api.Latency, 1, 1))), setToxic("a", of("y", api.Limit, -1, 0)), setToxic("d", lag("x")),
		reset(),
	}
}

// starts are registries to which these may be done.
func starts() [][]api.Proxy {
	seven := append(list(proxy("a"), off(proxy("b", lags(7)...))), row(5)...)
	return [][]api.Proxy{
		nil, list(proxy("a", lag("x"), down(limit("y")))), list(off(proxy("a")), proxy("b", limit("x"), limit("y"), limit("z"))),
		append(list(proxy("a", lags(8)...), proxy("b", lag("x"))), row(6)...), seven, seven[1:], list(proxy("b"), off(most(16, proxy("c", down(lag("x")))))),
	}
}

// TestOfWrongLists: of each of these all calls tell ErrArg first, and none.
func TestOfWrongLists(t *testing.T) {
	for _, l := range wrongLists() {
		before := text(l)
		for _, x := range things() {
			want := api.ErrArg
			if x.what == "Reset" { // it has no error to tell
				want = api.OK
			}
			if m, e := x.do(l); e != want || m != nil {
				t.Errorf("%s: %s of %.300q is %d, %.300q", x.promise, x.what, before, e, text(m))
			}
			if text(l) != before {
				t.Fatalf("R5: %s changed %.300q", x.what, before)
			}
		}
	}
}

// step does a thing to l, and to its model m, and complains if they come apart, or if P14.4 doesn't hold. It tells the list behind it.
func step(t *testing.T, promise string, x thing, l []api.Proxy, m model) ([]api.Proxy, api.Errno) {
	t.Helper()
	before := kept(l)
	other, e := x.do(l)
	if want := x.words(m); e != want || !like(other, m.list()) {
		t.Fatalf("%s: %s of %q is %d, %q, not %d, %q", promise, x.what, text(before), e, text(other), want, text(m.list()))
	}
	if e != api.OK && !like(other, before) {
		t.Fatalf("R2: %s of %q is %q, with %d", x.what, text(before), text(other), e)
	}
	if !like(l, before) {
		t.Fatalf("R5: %s changed %q into %q", x.what, text(before), text(l))
	}
	if !Right(other) || !rightByWords(other) {
		t.Fatalf("P14.4: %s of %q is no right registry: %q", x.what, text(before), text(other))
	}
	if n := changed(l, other); x.what != "Reset" && n > 1 {
		t.Fatalf("P14.4: %s of %q changes %d proxies: %q", x.what, text(before), n, text(other))
	}
	if Same(l, other) != like(l, other) {
		t.Fatalf("P14.1: Same of %q and %q is %v", text(before), text(other), Same(l, other))
	}
	return other, e
}

// changed is how many proxies of lists that have each name once are in one of these alone, or are not the same in both.
func changed(a, b []api.Proxy) int {
	n, inBoth := 0, 0
	for _, p := range a {
		for _, q := range b {
			if p.Name != q.Name {
				continue
			}
			inBoth++
			if !like(list(p), list(q)) {
				n++
			}
		}
	}
	return n + len(a) - inBoth + len(b) - inBoth
}

// TestEachRunOfThree: of all things, to all starts.
func TestEachRunOfThree(t *testing.T) {
	var run func(l []api.Proxy, left int)
	run = func(l []api.Proxy, left int) {
		for _, x := range things() {
			other, _ := step(t, x.promise, x, l, begun(l))
			if left > 1 {
				run(other, left-1)
			}
		}
	}
	for _, l := range starts() {
		run(l, 3)
	}
}

// TestByChance: long runs, so that registries, and proxies, come to be full.
func TestByChance(t *testing.T) {
	chance := rand.New(rand.NewSource(14))
	told := map[string]int{}
	for range 300 {
		var l []api.Proxy
		m := begun(l)
		for range 300 {
			x := thingByChance(chance)
			var e api.Errno
			l, e = step(t, "P14.4", x, l, m)
			told[fmt.Sprint(x.what[:strings.IndexAny(x.what+"(", "(")], " ", int(e))]++
		}
	}
	for _, what := range []string{
		"Add 0", "Add 140", "Add 141", "Add 143", "Add 144", "Drop 0", "Drop 142", "Switch 0", "Switch 142", "Reset 0",
		"AddToxic 0", "AddToxic 90", "AddToxic 91", "AddToxic 92", "AddToxic 141", "AddToxic 142", "AddToxic 143", "DropToxic 0", "DropToxic 142",
		"SetToxic 0", "SetToxic 90", "SetToxic 91", "SetToxic 92", "SetToxic 142",
	} {
		if told[what] < 50 {
			t.Errorf("P14.4: by chance %s is told %d times alone", what, told[what])
		}
	}
}

// thingByChance is one of all calls, mostly of a registry that grows.
func thingByChance(chance *rand.Rand) thing {
	one := func(l ...string) string { return l[chance.Intn(len(l))] }
	name := one("a", "b", "a", "b", "c", "d", "-", "_", "0", "a0", "zz", "abcdefghijklmnop", "A")
	its := one("x", "y", "z", "u", "v", "w", "t", "s", "r", "q", "p", "")
	x := of(its, chance.Intn(9), 1+chance.Intn(9), 0)
	if x.Kind == api.Latency || x.Kind == api.Bandwidth || x.Kind == api.Slicer {
		x.B = 1
	}
	x.Often, x.Up = chance.Intn(103)-1, chance.Intn(4) > 0
	switch n := chance.Intn(1000); {
	case n < 200:
		return add(name, chance.Intn(19)-1)
	case n < 230:
		return drop(name)
	case n < 300:
		return swap(name, n%2 == 0)
	case n < 780:
		return addToxic(name, x)
	case n < 810:
		return dropToxic(name, its)
	case n < 997:
		return setToxic(name, x)
	}
	return reset()
}

// TestAnswersAreTheirOwn: what is told shares nothing with what was given, nor one list of it with another one.
func TestAnswersAreTheirOwn(t *testing.T) {
	for _, start := range starts() {
		for _, x := range things() {
			l := roomy(start)
			first, _ := x.do(l)
			want := text(first)
			spoil(l)
			if text(first) != want {
				t.Errorf("R6: %s of %q keeps of what it was given", x.what, text(start))
			}
			l = roomy(start)
			first, _ = x.do(l)
			spoil(first)
			if text(l) != text(roomy(start)) {
				t.Errorf("R6: what %s of %q told is a part of what it was given", x.what, text(start))
			}
			whole, _ := x.do(roomy(start))
			for k := range whole {
				part, _ := x.do(roomy(start))
				spoilToxics(part[k].Toxics)
				for i := range part {
					if i != k && !like(part[i:i+1], whole[i:i+1]) {
						t.Errorf("R6: of what %s of %q told two lists are one", x.what, text(start))
					}
				}
			}
		}
	}
}

// roomy is a list like l, in which each list has room behind it, that an append would write into.
func roomy(l []api.Proxy) []api.Proxy {
	other := slices.Grow(kept(l), 5)
	for k := range other {
		other[k].Toxics = slices.Grow(other[k].Toxics, 5)
	}
	return other
}

func TestLines(t *testing.T) {
	eachProxy(func(p api.Proxy) {
		before := text(list(p))
		got := Lines(p)
		if !slices.Equal(got, linesByWords(p)) {
			t.Fatalf("P14.3: Lines of %.300q is %q", before, got)
		}
		if checkByWords(p) != api.OK && got != nil {
			t.Fatalf("P14.3: Lines of %.300q is not none", before)
		}
		if text(list(p)) != before {
			t.Fatalf("R5: Lines changed %.300q", before)
		}
	})
}

func TestLinesOfAll(t *testing.T) {
	p := off(most(16, proxy("web-1", of("lag", api.Latency, 20, 5), down(of("rate", api.Bandwidth, 0, 4096)), of("cut", api.Slicer, 1, top), often(0, of("hang", api.Timeout, 1, 0)), often(7, down(of("r", api.Reset, 9, 0))), of("cap", api.Limit, 0, 0), of("s", api.Slow, 0, 0), down(lag("z")))))
	want := []string{"web-1 off 16 8", "lag latency up 100 20 5", "rate bandwidth down 100 0 4096", "cut slicer up 100 1 1099511627776", "hang timeout up 0 1", "r reset_peer down 7 9", "cap limit_data up 100 0", "s slow_close up 100 0", "z latency down 100 100 5"}
	if got := Lines(p); !slices.Equal(got, want) {
		t.Errorf("P14.3: Lines is %q, not %q", got, want)
	}
	if got := Lines(api.Proxy{Name: "a", Most: 1, Toxics: []api.Toxic{}}); !slices.Equal(got, []string{"a off 1 0"}) {
		t.Errorf("P14.3: Lines is %q", got)
	}
}
