package link

import (
	"fmt"
	"math"
	"math/rand"
	"slices"
	"strings"
	"testing"

	"chicane/api"
	"chicane/chain"
	"chicane/dice"
	"chicane/stage"
	"chicane/toxic"
)

const top = api.MaxTick

// linklike is what a link does, and its model too.
type linklike interface {
	Send(now int, b []byte) int
	Finish(now int)
	Cut(now int)
	Step(now, window int) ([]byte, int)
	Add(t api.Toxic, now int) api.Errno
	Drop(name string, now int) api.Errno
	Change(t api.Toxic, now int) api.Errno
	Counts() Counts
	State() int
	Done() bool
	Names() []string
	Toxics() []api.Toxic
}

// model is a link by the words of the chapter: a chain, and of each of its toxics the name, and whether it was drawn as there.
type model struct {
	c         *chain.Chain
	up        bool
	seed, n   uint64
	names     []string
	there     []bool
	sent, got int
	told      bool
}

// begun is the model of a new link, for toxics that may be.
func begun(l []api.Toxic, up bool, seed uint64, room, now int) *model {
	c, _ := chain.New(room, now)
	m := &model{c: c, up: up, seed: seed}
	for _, x := range l {
		if x.Up == up {
			m.draw(x, now)
		}
	}
	return m
}

// draw is how the chapter has a toxic drawn.
func (m *model) draw(x api.Toxic, now int) {
	is, behind := dice.Percent(dice.Stream(m.seed, m.n), x.Often)
	if is {
		m.c.Insert(len(m.there), x, behind, now)
	} else {
		m.c.Insert(len(m.there), api.Toxic{}, 0, now)
	}
	m.names, m.there, m.n = append(m.names, x.Name), append(m.there, is), m.n+1
}

// own is a model that shares nothing with m.
func (m *model) own() *model {
	other := *m
	other.c = m.c.Copy()
	other.names, other.there = append([]string(nil), m.names...), append([]bool(nil), m.there...)
	return &other
}

// at is which one has that name; -1, if none has.
func (m *model) at(name string) int {
	for k := len(m.names) - 1; k >= 0; k-- {
		if m.names[k] == name {
			return k
		}
	}
	return -1
}

// Names, Toxics, Counts, State and Done are those of P12.1.
func (m *model) Names() []string     { return append([]string(nil), m.names...) }
func (m *model) Toxics() []api.Toxic { return m.c.Toxics() }
func (m *model) Counts() Counts      { return Counts{m.sent, m.got, m.c.Held(), m.c.Lost()} }
func (m *model) State() int          { return m.c.State() }
func (m *model) Done() bool          { return m.told }

// Send, Finish, Cut and Step are those of P12.2.
func (m *model) Send(now int, b []byte) int {
	n := m.c.Put(now, b)
	m.sent += n
	return n
}

func (m *model) Finish(now int) { m.c.Close(now) }

func (m *model) Cut(now int) { m.c.Break(now) }

func (m *model) Step(now, window int) ([]byte, int) {
	m.c.Step(now)
	b := m.c.Take(now, window)
	m.got += len(b)
	end := m.c.Step(now)
	if end == api.Open || m.told {
		return b, api.Open
	}
	m.told = true
	return b, end
}

// Add, Drop and Change are those of P12.3.
func (m *model) Add(x api.Toxic, now int) api.Errno {
	switch e := toxic.Check(x); {
	case e != api.OK:
		return e
	case x.Up != m.up:
		return api.OK
	case m.at(x.Name) >= 0:
		return api.ErrNameThere
	case len(m.names) >= 8:
		return api.ErrChainPlace
	}
	m.draw(x, now)
	return api.OK
}

func (m *model) Drop(name string, now int) api.Errno {
	at := m.at(name)
	if at == -1 {
		return api.ErrNameNone
	}
	m.names = append(append([]string(nil), m.names[:at]...), m.names[at+1:]...)
	m.there = append(append([]bool(nil), m.there[:at]...), m.there[at+1:]...)
	return m.c.Remove(at, now)
}

func (m *model) Change(x api.Toxic, now int) api.Errno {
	e, at := toxic.Check(x), m.at(x.Name)
	switch {
	case e != api.OK:
		return e
	case x.Up != m.up:
		return api.OK
	case at == -1:
		return api.ErrNameNone
	case !m.there[at]:
		return api.OK
	}
	return m.c.Update(at, x, now)
}

// thing is one that may be done, and what it tells, as a text.
type thing struct {
	promise, what string
	do            func(k linklike) string
}

// send, finish, cut, step, add, drop and change are to do that.
func send(now int, b string) thing {
	return thing{"P12.2", fmt.Sprintf("Send(%d, %.40q)", now, b), func(k linklike) string { return fmt.Sprint(k.Send(now, []byte(b))) }}
}

func finish(now int) thing {
	return thing{"P12.2", fmt.Sprintf("Finish(%d)", now), func(k linklike) string { k.Finish(now); return "" }}
}

func cut(now int) thing {
	return thing{"P12.2", fmt.Sprintf("Cut(%d)", now), func(k linklike) string { k.Cut(now); return "" }}
}

func step(now, window int) thing {
	return thing{"P12.2", fmt.Sprintf("Step(%d, %d)", now, window), func(k linklike) string {
		b, end := k.Step(now, window)
		return fmt.Sprint(string(b), " ", end)
	}}
}

func add(x api.Toxic, now int) thing {
	return thing{"P12.3", fmt.Sprintf("Add(%v, %d)", x, now), func(k linklike) string { return fmt.Sprint(int(k.Add(x, now))) }}
}

func drop(name string, now int) thing {
	return thing{"P12.3", fmt.Sprintf("Drop(%.40q, %d)", name, now), func(k linklike) string { return fmt.Sprint(int(k.Drop(name, now))) }}
}

func change(x api.Toxic, now int) thing {
	return thing{"P12.3", fmt.Sprintf("Change(%v, %d)", x, now), func(k linklike) string { return fmt.Sprint(int(k.Change(x, now))) }}
}

// counts, state, over and names are to ask that; names tells the number A of each toxic, too.
func counts() thing {
	return thing{"P12.1", "Counts", func(k linklike) string { return fmt.Sprint(k.Counts()) }}
}

func state() thing {
	return thing{"P12.1", "State", func(k linklike) string { return fmt.Sprint(k.State()) }}
}

func over() thing {
	return thing{"P12.1", "Done", func(k linklike) string { return fmt.Sprint(k.Done()) }}
}

func names() thing {
	return thing{"P12.1", "Names and Toxics", func(k linklike) string {
		s := strings.Join(k.Names(), ",")
		for _, x := range k.Toxics() {
			s += fmt.Sprint(" ", x.Name, x.A)
		}
		return s
	}}
}

// flow is to send so many bytes that follow those which were sent: 0, 1, 2 and so on.
func flow(now, n int) thing {
	return thing{"P12.2", fmt.Sprintf("Send(%d, of %d bytes)", now, n), func(k linklike) string {
		b := make([]byte, n)
		for i := range b {
			b[i] = byte(k.Counts().Sent + i)
		}
		return fmt.Sprint(k.Send(now, b))
	}}
}

// What a call tells that ends well.
const ok = "0"

// says is one thing, and what is told of it.
type says struct {
	do   thing
	want string
}

// row does these things to a new link up, of that room with these toxics, from 10 on, and complains if another thing is told than is written here.
func row(t *testing.T, promise string, room int, l []api.Toxic, do ...says) {
	t.Helper()
	rowOf(t, promise, made(t, l, room, 10), do...)
}

// rowOf does them to that link.
func rowOf(t *testing.T, promise string, k *Link, do ...says) {
	t.Helper()
	for i, y := range do {
		if told := y.do.do(k); told != y.want {
			t.Errorf("%s: the thing %d, %s, of %v tells %q, not %q", promise, i, y.do.what, k.Names(), told, y.want)
		}
	}
}

// made is a new link up.
func made(t *testing.T, l []api.Toxic, room, now int) *Link {
	t.Helper()
	k, e := New(l, true, 7, room, now)
	if e != api.OK || k == nil {
		t.Fatalf("P12.1: New(%v, true, 7, %d, %d) is %d", l, room, now, e)
	}
	return k
}

// of is a toxic of that name and kind, up, and always there.
func of(name string, kind, a, b int) api.Toxic {
	return api.Toxic{Name: name, Kind: kind, Up: true, Often: 100, A: a, B: b}
}

// down is the toxic on the other way; often it is there so often; called has another name.
func down(x api.Toxic) api.Toxic {
	x.Up = false
	return x
}

func often(n int, x api.Toxic) api.Toxic {
	x.Often = n
	return x
}

func called(name string, x api.Toxic) api.Toxic {
	x.Name = name
	return x
}

// toxics is a list of them.
func toxics(l ...api.Toxic) []api.Toxic { return l }

// lag, rate, slice, hang, reset, limit and slow are toxics of these numbers, named by what they are.
func lag(a int) api.Toxic      { return of("lag", api.Latency, a, 0) }
func rate(a, b int) api.Toxic  { return of("rate", api.Bandwidth, a, b) }
func slice(a, b int) api.Toxic { return of("slice", api.Slicer, a, b) }
func hang(a int) api.Toxic     { return of("hang", api.Timeout, a, 0) }
func reset(a int) api.Toxic    { return of("reset", api.Reset, a, 0) }
func limit(a int) api.Toxic    { return of("limit", api.Limit, a, 0) }
func slow(a int) api.Toxic     { return of("slow", api.Slow, a, 0) }

// eight are as many toxics as may be, of the names a to h, that do nothing.
func eight() []api.Toxic {
	var l []api.Toxic
	for k := range 8 {
		l = append(l, called(string(rune('a'+k)), lag(0)))
	}
	return l
}

// edges are numbers at, and beyond, the ends of what a tick may be.
func edges() []int {
	return []int{math.MinInt, -top, -1, 0, 1, 1<<32 - 1, 1 << 32, top - 1, top, top + 1, 1 << 62, math.MaxInt}
}

// wrong are toxics that may not be, and why.
func wrong() []struct {
	x    api.Toxic
	want api.Errno
} {
	return []struct {
		x    api.Toxic
		want api.Errno
	}{
		{api.Toxic{}, api.ErrToxicForm}, {called("", lag(1)), api.ErrToxicForm}, {called("A", lag(-1)), api.ErrToxicForm}, {called("a b", lag(1)), api.ErrToxicForm}, {called("abcdefghijklmnopq", lag(1)), api.ErrToxicForm},
		{of("z", api.Pass, 0, 0), api.ErrToxicKind}, {of("z", 8, 1, 1), api.ErrToxicKind}, {often(101, of("z", -1, 1, 1)), api.ErrToxicKind},
		{often(-1, lag(1)), api.ErrToxicPart}, {often(101, lag(1)), api.ErrToxicPart}, {lag(-1), api.ErrToxicPart}, {lag(top + 1), api.ErrToxicPart}, {of("z", api.Latency, 3, 4), api.ErrToxicPart}, {rate(1, 0), api.ErrToxicPart}, {hang(0), api.ErrToxicPart}, {of("z", api.Limit, 1, 1), api.ErrToxicPart},
	}
}

func TestExample(t *testing.T) {
	k, _ := New(nil, true, 0, 9, 0)
	n := k.Send(0, []byte("ab"))
	k.Finish(0)
	a, first := k.Step(0, 1)
	b, second := k.Step(0, 9)
	none, third := k.Step(0, 9)
	if n != 2 || string(a) != "a" || first != api.Open || string(b) != "b" || second != api.Closed || len(none) != 0 || third != api.Open {
		t.Errorf("P12.2: the chapter's example: %d; %q, %d; %q, %d; %q, %d", n, a, first, b, second, none, third)
	}
}

// P12.1

func TestNew(t *testing.T) {
	for _, room := range []int{1, 2, 4095, 4096} {
		for _, now := range edges() {
			for _, up := range []bool{true, false} {
				for _, seed := range []uint64{0, 42, math.MaxUint64} {
					k, e := New(nil, up, seed, room, now)
					if e != api.OK || k == nil {
						t.Fatalf("P12.1: New(none, %v, %d, %d, %d) is %d", up, seed, room, now, e)
					}
					if k.State() != api.Open || k.Done() || k.Counts() != (Counts{}) || len(k.Names()) != 0 || len(k.Toxics()) != 0 {
						t.Errorf("P12.1: New(none, %v, %d, %d, %d) is not so: %d, %v, %v, %v, %v", up, seed, room, now, k.State(), k.Done(), k.Counts(), k.Names(), k.Toxics())
					}
					if n := k.Send(now, make([]byte, 5000)); n != room {
						t.Errorf("P12.1: New(none, %v, %d, %d, %d) has room for %d", up, seed, room, now, n)
					}
				}
			}
		}
	}
}

// TestNewBeginsAtNow: its toxics do, too.
func TestNewBeginsAtNow(t *testing.T) {
	rowOf(t, "P12.1", made(t, toxics(reset(4)), 9, 12), says{step(15, 9), " 0"}, says{step(16, 9), " 2"})
	rowOf(t, "P12.1", made(t, toxics(hang(4)), 9, math.MinInt), says{step(3, 9), " 0"}, says{step(4, 9), " 1"})
	rowOf(t, "P12.1", made(t, toxics(lag(4)), 9, 12), says{send(5, "ab"), "2"}, says{step(5, 9), " 0"}, says{step(15, 9), " 0"}, says{step(16, 9), "ab 0"})
}

func TestNewRefuses(t *testing.T) {
	nine := append(eight(), lag(1))
	for _, up := range []bool{true, false} {
		refused := func(l []api.Toxic, room int, want api.Errno) {
			t.Helper()
			given := slices.Clone(l)
			if k, e := New(l, up, 0, room, 0); e != want || k != nil {
				t.Errorf("P12.1: New(%v, %v, 0, %d, 0) is %v, %d, not %d", l, up, room, k, e, want)
			}
			if !slices.Equal(l, given) {
				t.Errorf("R5: of %v there is %v behind New", given, l)
			}
		}
		for _, room := range []int{math.MinInt, -1, 0, 4097, 1<<32 + 1, math.MaxInt} {
			refused(nil, room, api.ErrArg)
			refused(toxics(lag(1), down(slow(1))), room, api.ErrArg)
			refused(toxics(lag(-1), lag(1), lag(1)), room, api.ErrArg)
			refused(nine, room, api.ErrArg)
		}
		// There are too many, whatever they are, and of whatever way.
		refused(nine, 9, api.ErrArg)
		refused(append(eight(), down(lag(1))), 9, api.ErrArg)
		refused(append([]api.Toxic{down(lag(1))}, eight()...), 9, api.ErrArg)
		refused(make([]api.Toxic, 9), 9, api.ErrArg)
		refused(slices.Repeat(toxics(lag(1)), 9), 9, api.ErrArg)
		refused(slices.Repeat(toxics(lag(1)), 5000), 9, api.ErrArg)
		// The first one that may not be, on whatever way, and whatever name others have.
		for _, x := range wrong() {
			for _, y := range wrong() {
				refused(toxics(x.x, y.x), 9, x.want)
				refused(toxics(x.x, down(y.x)), 9, x.want)
				refused(toxics(down(x.x), y.x), 9, x.want)
			}
			refused(toxics(lag(1), down(slow(1)), x.x), 9, x.want)
			refused(toxics(slow(1), down(slow(1)), x.x), 9, x.want)
			refused(toxics(slow(1), slow(1), down(x.x)), 9, x.want)
			refused(append(eight()[:7], x.x), 9, x.want)
		}
		// Two of one name, on whatever ways, of whatever kinds, wherever they stand.
		refused(toxics(lag(1), lag(1)), 9, api.ErrNameThere)
		refused(toxics(lag(1), called("lag", slow(2))), 9, api.ErrNameThere)
		refused(toxics(lag(1), down(lag(1))), 9, api.ErrNameThere)
		refused(toxics(down(lag(1)), down(lag(1))), 9, api.ErrNameThere)
		refused(toxics(often(0, lag(1)), often(0, lag(1))), 9, api.ErrNameThere)
		for k := range 7 {
			l := eight()
			l[7].Name = l[k].Name
			refused(l, 9, api.ErrNameThere)
		}
	}
}

// TestNewHasThoseOfItsWay: in order; the others do not concern it.
func TestNewHasThoseOfItsWay(t *testing.T) {
	l := toxics(down(of("none", api.Limit, 0, 0)), lag(3), down(of("q", api.Timeout, 1, 0)), slow(2), limit(4), down(reset(1)), of("z", api.Reset, 99, 0), rate(8, 9))
	row(t, "P12.1", 9, l, says{names(), "lag,slow,limit,z,rate lag3 slow2 limit4 z99 rate8"})
	k, e := New(l, false, 7, 9, 10)
	if e != api.OK || !slices.Equal(k.Toxics(), toxics(l[0], l[2], l[5])) {
		t.Fatalf("P12.1: New(%v, false) is %d", l, e)
	}
	rowOf(t, "P12.1", k, says{names(), "none,q,reset none0 q1 reset1"})
	row(t, "P12.1", 9, eight(), says{names(), "a,b,c,d,e,f,g,h a0 b0 c0 d0 e0 f0 g0 h0"})
	// The first one is next to where bytes are sent.
	row(t, "P12.1", 9, toxics(limit(2), lag(5)), says{send(10, "abc"), "3"}, says{step(10, 9), " 0"}, says{counts(), "{3 0 2 1}"}, says{step(15, 9), "ab 1"})
	row(t, "P12.1", 9, toxics(lag(5), limit(2)), says{send(10, "abc"), "3"}, says{step(10, 9), " 0"}, says{counts(), "{3 0 3 0}"}, says{step(15, 9), "ab 1"})
}

// TestDrawn: whether each one is there, by its number among those that were drawn.
func TestDrawn(t *testing.T) {
	for seed := range uint64(300) {
		seed *= 0x123456789abcdef
		for _, chance := range []int{0, 1, 30, 50, 99, 100} {
			var l []api.Toxic
			for k, x := range eight() {
				x.Up, x.Often = k != 2 && k != 5, chance
				l = append(l, x)
			}
			k, e := New(l, true, seed, 9, 0)
			if e != api.OK {
				t.Fatalf("P12.1: New is %d", e)
			}
			var want []api.Toxic
			for n, x := range toxics(l[0], l[1], l[3], l[4], l[6], l[7]) {
				if is, _ := dice.Percent(dice.Stream(seed, uint64(n)), chance); is {
					want = append(want, x)
				} else {
					want = append(want, api.Toxic{})
				}
			}
			if got := k.Toxics(); !slices.Equal(got, want) {
				t.Fatalf("P12.1: of the seed %d those drawn, %d in a hundred, are %v, not %v", seed, chance, got, want)
			}
			if got := k.Names(); !slices.Equal(got, strings.Split("a,b,d,e,g,h", ",")) {
				t.Fatalf("P12.1: Names are %v", got)
			}
		}
	}
}

// TestDiceOfTheDrawn: a stage's dice begin behind the draw.
func TestDiceOfTheDrawn(t *testing.T) {
	for _, seed := range []uint64{0, 1, 42, 1 << 63, math.MaxUint64} {
		for n := range uint64(5) {
			k, _ := New(eight()[:n], true, seed, 99, 0)
			k.Add(slice(90, 0), 0)
			_, behind := dice.Percent(dice.Stream(seed, n), 100)
			s, _ := stage.New(slice(90, 0), behind, 99, 0)
			b := []byte(strings.Repeat("x", 99))
			k.Send(0, b)
			s.Put(0, b)
			got, _ := k.Step(0, 99)
			if want := s.Take(0, 99); len(got) != len(want) {
				t.Errorf("P12.1: of the seed %d the first slice of the one drawn behind %d is of %d, not %d", seed, n, len(got), len(want))
			}
		}
	}
}

// TestHowManyWereDrawn: those that are gone count, those that were refused, are of the other way, or were changed, do not.
func TestHowManyWereDrawn(t *testing.T) {
	for seed := range uint64(200) {
		k, _ := New(toxics(lag(1), down(rate(1, 1)), slow(1)), true, seed, 9, 0)
		n := uint64(2)
		same := func(x api.Toxic, what string) {
			t.Helper()
			x.Often = 50
			if e := k.Add(x, 0); e != api.OK {
				t.Fatalf("P12.3: Add(%v) is %d", x, e)
			}
			is, _ := dice.Percent(dice.Stream(seed, n), 50)
			all := k.Toxics()
			if there := all[len(all)-1] == x; there != is {
				t.Fatalf("P12.1: of the seed %d one that was added behind %s is there: %v", seed, what, there)
			}
			n++
		}
		same(limit(1), "New")
		k.Drop("lag", 0)
		k.Drop("none", 0)
		same(hang(1), "a Drop")
		for _, x := range toxics(slow(1), down(rate(1, 1)), rate(1, 0), often(101, reset(1))) {
			k.Add(x, 0)
		}
		same(reset(1), "Adds that drew none")
		k.Change(slow(2), 0)
		k.Change(down(slow(2)), 0)
		same(lag(1), "a Change")
		k = k.Copy()
		same(rate(1, 1), "a Copy")
		for _, x := range eight()[:2] {
			k.Add(x, 0)
			n++
		}
		if e := k.Add(slice(1, 1), 0); e != api.ErrChainPlace {
			t.Fatalf("P12.3: of eight Add is %d", e)
		}
		k.Drop("slow", 0)
		same(slice(1, 1), "one that had no place")
	}
}

func TestCountsStateAndDone(t *testing.T) {
	row(t, "P12.1", 2, toxics(lag(3)),
		says{send(10, "abc"), "2"}, says{counts(), "{2 0 2 0}"}, says{send(10, "c"), "0"}, says{counts(), "{2 0 2 0}"}, says{step(10, 9), " 0"}, says{counts(), "{2 0 2 0}"},
		says{send(10, "cd"), "2"}, says{step(13, 1), "a 0"}, says{counts(), "{4 1 3 0}"}, says{state(), "0"}, says{over(), "false"},
		says{cut(13), ""}, says{counts(), "{4 1 0 3}"}, says{state(), "2"}, says{over(), "false"}, says{step(13, 9), " 2"}, says{over(), "true"}, says{step(13, 9), " 0"}, says{over(), "true"}, says{state(), "2"}, says{counts(), "{4 1 0 3}"})
	row(t, "P12.1", 9, nil, says{send(10, "ab"), "2"}, says{finish(10), ""}, says{state(), "0"}, says{over(), "false"}, says{step(10, 1), "a 0"}, says{over(), "false"}, says{step(10, 1), "b 1"}, says{state(), "1"}, says{over(), "true"}, says{counts(), "{2 2 0 0}"})
	row(t, "P12.1", 9, toxics(limit(1)), says{send(10, "abc"), "3"}, says{step(10, 0), " 0"}, says{counts(), "{3 0 1 2}"}, says{state(), "0"}, says{over(), "false"}, says{step(10, 1), "a 1"}, says{counts(), "{3 1 0 2}"}, says{over(), "true"})
}

func TestNamesAndToxicsAreTheirOwn(t *testing.T) {
	l := toxics(lag(3), often(0, slow(2)), limit(4))
	k := made(t, l, 9, 10)
	l[0], l[1], l[2] = slow(9), slow(9), slow(9)
	n, x := k.Names(), k.Toxics()
	n[0], n[2], x[0], x[2] = "q", "r", slow(9), slow(9)
	_, _ = append(n[:1], "s"), append(x[:1], slow(9))
	rowOf(t, "R6", k, says{names(), "lag,slow,limit lag3 0 limit4"}, says{drop("q", 10), "142"}, says{drop("lag", 10), ok}, says{names(), "slow,limit 0 limit4"})
	if n[0] != "q" || n[2] != "r" {
		t.Errorf("R6: what Names told becomes %v", n)
	}
}

func TestCopyIsItsOwn(t *testing.T) {
	for _, l := range starts() {
		p := pair(t, 9, l)
		p.steps(t, flow(10, 6), step(10, 2), flow(10, 3), finish(11), step(11, 0))
		other := p.own()
		other.stands(t, "a copy")
		other.steps(t, flow(12, 2), step(12, 3), drop("lag", 12), drop("slow", 12), add(called("z", lag(1)), 12), change(limit(9), 12), step(14, 1), cut(14), step(14, 9))
		p.stands(t, "its copy was changed")
		other = p.own()
		p.steps(t, step(13, 2), drop("limit", 13), drop("lag", 13), add(called("y", lag(1)), 13), add(called("x", slow(1)), 13), change(slow(9), 13), step(15, 9), cut(15), step(15, 9))
		other.stands(t, "what it was copied from was changed")
		other.steps(t, flow(13, 1), step(13, 9), step(20, 9), step(30, 9), step(40, 9))
		again := other.own()
		again.stands(t, "a copy of what may be over")
		again.steps(t, step(40, 9), step(50, 9))
	}
}

// P12.2

func TestSend(t *testing.T) {
	row(t, "P12.2", 3, nil, says{send(10, ""), "0"}, says{send(10, "ab"), "2"}, says{send(10, "cd"), "1"}, says{send(10, "d"), "0"}, says{step(10, 2), "ab 0"}, says{send(10, "defg"), "3"}, says{step(10, 9), "cde 0"}, says{step(10, 9), "f 0"}, says{counts(), "{6 6 0 0}"})
	row(t, "P12.2", 9, nil, says{send(10, "a"), "1"}, says{finish(10), ""}, says{send(10, "b"), "0"}, says{step(10, 9), "a 1"}, says{send(10, "b"), "0"}, says{counts(), "{1 1 0 0}"})
	row(t, "P12.2", 9, nil, says{cut(10), ""}, says{send(10, "b"), "0"}, says{counts(), "{0 0 0 0}"})
	row(t, "P12.2", 9, toxics(lag(5)), says{send(12, "a"), "1"}, says{send(12, "b"), "1"}, says{step(12, 9), " 0"}, says{step(16, 9), " 0"}, says{step(17, 9), "ab 0"})
	long := strings.Repeat("ab", 3000)
	row(t, "P12.2", 4096, nil, says{send(math.MaxInt, long), "4096"}, says{step(math.MaxInt, math.MaxInt), long[:4096] + " 0"})
}

func TestFinish(t *testing.T) {
	row(t, "P12.2", 9, nil, says{finish(10), ""}, says{finish(11), ""}, says{state(), "0"}, says{step(11, 9), " 1"}, says{finish(11), ""}, says{step(11, 9), " 0"})
	row(t, "P12.2", 3, nil, says{send(10, "abc"), "3"}, says{step(10, 0), " 0"}, says{send(10, "def"), "3"}, says{finish(10), ""}, says{step(10, 2), "ab 0"}, says{step(10, 9), "cde 0"}, says{step(10, 9), "f 1"}, says{counts(), "{6 6 0 0}"})
	row(t, "P12.2", 9, toxics(slow(3)), says{finish(12), ""}, says{step(12, 9), " 0"}, says{step(14, 9), " 0"}, says{step(15, 9), " 1"}, says{step(16, 9), " 0"})
	row(t, "P12.2", 9, nil, says{cut(10), ""}, says{finish(10), ""}, says{step(10, 9), " 2"})
}

func TestCut(t *testing.T) {
	row(t, "P12.2", 9, toxics(lag(5)), says{send(10, "abc"), "3"}, says{step(10, 9), " 0"}, says{send(10, "de"), "2"}, says{cut(12), ""}, says{counts(), "{5 0 0 5}"}, says{state(), "2"}, says{step(99, 9), " 2"}, says{step(99, 9), " 0"}, says{cut(99), ""}, says{step(99, 9), " 0"})
	row(t, "P12.2", 9, nil, says{send(10, "ab"), "2"}, says{finish(10), ""}, says{step(10, 1), "a 0"}, says{cut(10), ""}, says{step(10, 9), " 2"}, says{counts(), "{2 1 0 1}"})
	// What is Closed stays that.
	row(t, "P12.2", 9, nil, says{finish(10), ""}, says{step(10, 9), " 1"}, says{cut(10), ""}, says{state(), "1"}, says{step(10, 9), " 0"}, says{over(), "true"})
	for _, now := range edges() {
		row(t, "P12.2", 9, toxics(lag(1)), says{send(10, "ab"), "2"}, says{cut(now), ""}, says{state(), "2"}, says{step(10, 9), " 2"}, says{counts(), "{2 0 0 2}"})
	}
}

func TestStepTakesNoMoreThanTheWindow(t *testing.T) {
	row(t, "P12.2", 9, nil, says{send(10, "abcdefg"), "7"}, says{step(10, 0), " 0"}, says{step(10, -1), " 0"}, says{step(10, math.MinInt), " 0"}, says{step(10, 1), "a 0"}, says{step(10, 2), "bc 0"}, says{step(10, 3), "def 0"}, says{step(10, math.MaxInt), "g 0"}, says{step(10, math.MaxInt), " 0"})
	// An end is told whatever the window, if nothing is held.
	row(t, "P12.2", 9, nil, says{finish(10), ""}, says{step(10, 0), " 1"})
	row(t, "P12.2", 9, nil, says{cut(10), ""}, says{step(10, math.MinInt), " 2"})
	row(t, "P12.2", 9, toxics(reset(3)), says{send(10, "ab"), "2"}, says{step(13, -1), " 2"})
	row(t, "P12.2", 9, nil, says{send(10, "ab"), "2"}, says{finish(10), ""}, says{step(10, 0), " 0"}, says{step(10, 1), "a 0"}, says{step(10, 0), " 0"}, says{step(10, 1), "b 1"})
}

// TestStepStepsTwice: ahead of what is taken, and behind it.
func TestStepStepsTwice(t *testing.T) {
	// Once more: what is taken makes room.
	row(t, "P12.2", 2, nil, says{send(10, "ab"), "2"}, says{step(10, 0), " 0"}, says{send(10, "cd"), "2"}, says{step(10, 1), "a 0"}, says{send(10, "efg"), "1"}, says{step(10, 2), "bc 0"}, says{send(10, "fgh"), "2"})
	// Even if nothing is taken.
	row(t, "P12.2", 1, toxics(lag(0)), says{send(10, "a"), "1"}, says{step(10, 0), " 0"}, says{send(10, "b"), "1"}, says{step(10, 0), " 0"}, says{send(10, "c"), "1"}, says{step(10, 1), "a 0"}, says{send(10, "d"), "0"}, says{step(10, 1), "b 0"}, says{send(10, "d"), "1"}, says{step(10, 9), "c 0"}, says{step(10, 9), "d 0"})
	// A slice at each of them.
	row(t, "P12.2", 9, toxics(slice(1, 0)), says{send(10, "abcd"), "4"}, says{step(10, 9), "a 0"}, says{step(10, 9), "bc 0"}, says{step(10, 0), " 0"}, says{step(10, 9), "d 0"})
	// The end comes with the last bytes, not behind them.
	row(t, "P12.2", 9, toxics(lag(5), slow(0)), says{send(10, "ab"), "2"}, says{finish(10), ""}, says{step(10, 9), " 0"}, says{step(14, 9), " 0"}, says{step(15, 9), "ab 1"})
	row(t, "P12.2", 9, toxics(limit(2)), says{send(10, "abc"), "3"}, says{step(10, 9), "ab 1"}, says{counts(), "{3 2 0 1}"})
	// Ahead: of what comes at this tick, and of what breaks at it.
	row(t, "P12.2", 9, toxics(lag(5)), says{send(10, "ab"), "2"}, says{step(15, 9), " 0"}, says{step(20, 9), "ab 0"})
	row(t, "P12.2", 9, toxics(reset(5)), says{send(10, "ab"), "2"}, says{step(14, 1), "a 0"}, says{step(15, 9), " 2"}, says{counts(), "{2 1 0 1}"})
}

// TestEndIsToldOnce: whatever is done to the link behind it.
func TestEndIsToldOnce(t *testing.T) {
	behind := []says{{send(20, "x"), "0"}, {step(20, 9), " 0"}, {finish(20), ""}, {step(21, 9), " 0"}, {add(called("y", lag(1)), 21), ok}, {add(called("z", reset(1)), 21), ok}, {step(30, 9), " 0"}, {drop("y", 30), ok}, {step(31, 9), " 0"}, {change(called("z", reset(9)), 31), ok}, {cut(31), ""}, {step(50, 9), " 0"}, {over(), "true"}}
	row(t, "P12.4", 9, toxics(limit(0)), append([]says{{send(10, "ab"), "2"}, {step(10, 9), " 1"}, {state(), "1"}}, behind...)...)
	row(t, "P12.4", 9, toxics(lag(1), hang(3), slow(0)), append([]says{{send(10, "ab"), "2"}, {step(10, 9), " 0"}, {step(13, 0), " 1"}, {state(), "1"}}, behind...)...)
	row(t, "P12.4", 9, nil, append([]says{{send(10, "ab"), "2"}, {finish(10), ""}, {step(10, 9), "ab 1"}, {state(), "1"}}, behind...)...)
	row(t, "P12.4", 9, nil, append([]says{{send(10, "ab"), "2"}, {cut(10), ""}, {step(10, 9), " 2"}, {state(), "2"}}, behind...)...)
	row(t, "P12.4", 9, toxics(reset(3)), append([]says{{send(10, "ab"), "2"}, {step(13, 9), " 2"}, {state(), "2"}}, behind...)...)
}

// TestTicksAtTheEnds: ticks are taken as layer 1 does, and none goes back.
func TestTicksAtTheEnds(t *testing.T) {
	row(t, "P12.2", 9, toxics(lag(5)), says{send(10, "ab"), "2"}, says{step(20, 9), " 0"}, says{step(11, 9), " 0"}, says{step(25, 1), "a 0"}, says{step(math.MinInt, 9), "b 0"})
	row(t, "P12.2", 9, toxics(lag(5)), says{send(10, "ab"), "2"}, says{step(top-3, 9), " 0"}, says{step(top-1, 9), " 0"}, says{step(math.MaxInt, 9), "ab 0"})
	for _, now := range edges() {
		p := pair(t, 9, toxics(lag(2), slice(2, 1), slow(1)))
		p.steps(t, flow(now, 5), step(now, 9), add(hang(2), now), drop("hang", now), change(lag(1), now), step(now, 9), finish(now), step(now, 1), step(20, 9), step(21, 1), step(22, 9), step(23, 9), step(24, 9), step(25, 9), step(26, 9))
	}
}

// P12.3

func TestAdd(t *testing.T) {
	row(t, "P12.3", 9, nil, says{add(slow(2), 10), ok}, says{add(lag(3), 10), ok}, says{add(often(0, limit(0)), 10), ok}, says{add(called("a", slow(4)), 10), ok}, says{names(), "slow,lag,limit,a slow2 lag3 0 a4"})
	// It is the last one, and empty.
	row(t, "P12.3", 9, toxics(limit(2)), says{send(10, "abc"), "3"}, says{add(lag(5), 10), ok}, says{step(10, 9), " 0"}, says{counts(), "{3 0 2 1}"}, says{step(14, 9), " 0"}, says{step(15, 9), "ab 1"})
	row(t, "P12.3", 9, nil, says{send(10, "abc"), "3"}, says{step(10, 1), "a 0"}, says{send(10, "d"), "1"}, says{add(lag(5), 10), ok}, says{step(10, 9), "bc 0"}, says{step(15, 9), "d 0"})
	// It begins at now.
	row(t, "P12.3", 9, nil, says{add(reset(4), 12), ok}, says{step(15, 9), " 0"}, says{step(16, 9), " 2"})
	row(t, "P12.3", 9, nil, says{add(hang(4), -3), ok}, says{step(3, 9), " 0"}, says{step(4, 9), " 1"})
	// A link whose end was told takes it too.
	row(t, "P12.3", 9, nil, says{cut(10), ""}, says{step(10, 9), " 2"}, says{add(lag(5), 10), ok}, says{add(lag(5), 10), "141"}, says{names(), "lag lag5"})
}

func TestAddRefuses(t *testing.T) {
	for _, l := range [][]api.Toxic{nil, toxics(lag(1)), eight()} {
		p := pair(t, 9, l)
		for _, x := range wrong() {
			for _, y := range toxics(x.x, down(x.x)) {
				if e := p.k.Add(y, 10); e != x.want {
					t.Errorf("P12.3: of %v Add(%v) is %d, not %d", l, y, e, x.want)
				}
				p.stands(t, "a refused Add")
			}
		}
		// Of the other way nothing is done, whatever the name, and however many there are.
		for _, x := range append(eight(), lag(1), limit(0)) {
			if e := p.k.Add(down(x), 10); e != api.OK {
				t.Errorf("P12.3: of %v Add(%v) of the other way is %d", l, x, e)
			}
			p.stands(t, "an Add of the other way")
		}
		for _, x := range l {
			for _, y := range toxics(x, often(0, x), called(x.Name, limit(0))) {
				if e := p.k.Add(y, 10); e != api.ErrNameThere {
					t.Errorf("P12.3: of %v Add(%v) is %d, not %d", l, y, e, api.ErrNameThere)
				}
				p.stands(t, "an Add of a name that is there")
			}
		}
	}
	row(t, "P12.3", 9, toxics(often(0, limit(0))), says{add(limit(0), 10), "141"}, says{add(called("limit", lag(1)), 10), "141"}, says{names(), "limit 0"})
	row(t, "P12.3", 9, eight(), says{add(lag(1), 10), "110"}, says{add(often(0, lag(1)), 10), "110"}, says{names(), "a,b,c,d,e,f,g,h a0 b0 c0 d0 e0 f0 g0 h0"}, says{drop("c", 10), ok}, says{add(lag(1), 10), ok}, says{add(called("c", lag(1)), 10), "110"}, says{names(), "a,b,d,e,f,g,h,lag a0 b0 d0 e0 f0 g0 h0 lag1"})
	// Those that were drawn as not there count.
	l := eight()
	for k := range l {
		l[k].Often = 0
	}
	row(t, "P12.3", 9, l, says{add(lag(1), 10), "110"}, says{add(called("h", lag(1)), 10), "141"}, says{names(), "a,b,c,d,e,f,g,h 0 0 0 0 0 0 0 0"})
}

func TestDrop(t *testing.T) {
	row(t, "P12.3", 9, append(eight()[:4], down(slow(1)), often(0, limit(0))),
		says{drop("slow", 10), "142"}, says{drop("", 10), "142"}, says{drop("A", 10), "142"}, says{drop("a ", 10), "142"}, says{drop("lag", 10), "142"}, says{drop(strings.Repeat("a", 99999), 10), "142"}, says{names(), "a,b,c,d,limit a0 b0 c0 d0 0"},
		says{drop("b", 10), ok}, says{drop("b", 10), "142"}, says{names(), "a,c,d,limit a0 c0 d0 0"}, says{drop("limit", 10), ok}, says{names(), "a,c,d a0 c0 d0"},
		says{drop("d", 10), ok}, says{drop("a", 10), ok}, says{names(), "c c0"}, says{add(called("a", lag(5)), 10), ok}, says{names(), "c,a c0 a5"}, says{drop("c", 10), ok}, says{drop("a", 10), ok}, says{names(), ""}, says{drop("a", 10), "142"})
	// What it holds is handed on, at now.
	row(t, "P12.3", 9, toxics(lag(5)), says{send(10, "abc"), "3"}, says{step(10, 9), " 0"}, says{send(10, "de"), "2"}, says{drop("lag", 11), ok}, says{counts(), "{5 0 5 0}"}, says{step(11, 9), "abcde 0"})
	row(t, "P12.3", 9, toxics(lag(5), called("z", lag(7))), says{send(10, "abc"), "3"}, says{step(10, 9), " 0"}, says{drop("lag", 12), ok}, says{step(18, 9), " 0"}, says{step(19, 9), "abc 0"})
	// Or lost, if what is behind it has ended.
	row(t, "P12.3", 9, toxics(lag(5), hang(4)), says{send(10, "abc"), "3"}, says{step(10, 9), " 0"}, says{send(10, "de"), "2"}, says{drop("lag", 14), ok}, says{counts(), "{5 0 0 5}"}, says{send(14, "f"), "0"}, says{step(14, 9), " 1"})
	// What it would have done is not done any more.
	row(t, "P12.3", 9, toxics(reset(4)), says{drop("reset", 14), ok}, says{send(14, "ab"), "2"}, says{step(14, 9), "ab 0"})
	// A link whose end was told lets it go too.
	row(t, "P12.3", 9, toxics(lag(5)), says{cut(10), ""}, says{step(10, 9), " 2"}, says{drop("lag", 10), ok}, says{drop("lag", 10), "142"})
}

func TestChange(t *testing.T) {
	row(t, "P12.3", 9, toxics(lag(5), limit(9)), says{change(limit(3), 10), ok}, says{change(lag(2), 10), ok}, says{names(), "lag,limit lag2 limit3"}, says{send(10, "abcd"), "4"}, says{step(10, 9), " 0"}, says{step(12, 9), "abc 1"})
	// Names and stages stay side by side.
	row(t, "P12.3", 9, eight(), says{drop("b", 10), ok}, says{drop("f", 10), ok}, says{change(called("c", lag(3)), 10), ok}, says{change(called("h", lag(8)), 10), ok}, says{change(called("b", lag(2)), 10), "142"}, says{names(), "a,c,d,e,g,h a0 c3 d0 e0 g0 h8"})
	// How often it is there is not asked again.
	row(t, "P12.3", 9, toxics(lag(5), often(0, limit(9))), says{change(often(0, lag(2)), 10), ok}, says{change(limit(0), 10), ok}, says{names(), "lag,limit lag2 0"}, says{change(lag(4), 10), ok}, says{names(), "lag,limit lag4 0"}, says{send(10, "ab"), "2"}, says{step(10, 9), " 0"}, says{step(14, 9), "ab 0"})
	// It is told the tick.
	row(t, "P12.3", 9, toxics(hang(4)), says{change(hang(9), 13), ok}, says{step(14, 9), " 0"}, says{step(19, 9), " 1"})
	row(t, "P12.3", 9, toxics(hang(4)), says{change(hang(9), 14), ok}, says{step(14, 9), " 1"})
	// A link whose end was told takes it too.
	row(t, "P12.3", 9, toxics(lag(5)), says{cut(10), ""}, says{step(10, 9), " 2"}, says{change(lag(6), 10), ok}, says{names(), "lag lag6"})
}

func TestChangeRefuses(t *testing.T) {
	for _, l := range [][]api.Toxic{nil, toxics(lag(1), often(0, slow(1))), eight()} {
		p := pair(t, 9, l)
		for _, x := range wrong() {
			for _, y := range toxics(x.x, down(x.x)) {
				if e := p.k.Change(y, 10); e != x.want {
					t.Errorf("P12.3: of %v Change(%v) is %d, not %d", l, y, e, x.want)
				}
				p.stands(t, "a refused Change")
			}
		}
		for _, x := range append(eight(), lag(9), slow(9), limit(0)) {
			if e := p.k.Change(down(x), 10); e != api.OK {
				t.Errorf("P12.3: of %v Change(%v) of the other way is %d", l, x, e)
			}
			p.stands(t, "a Change of the other way")
		}
		for _, x := range toxics(limit(0), called("z", lag(9)), called("l", slow(9))) {
			if e := p.k.Change(x, 10); e != api.ErrNameNone {
				t.Errorf("P12.3: of %v Change(%v) is %d, not %d", l, x, e, api.ErrNameNone)
			}
			p.stands(t, "a Change of none")
		}
	}
	// Of another kind, it is the chain's error; but nothing is done of one that was drawn as not there.
	row(t, "P12.3", 9, toxics(lag(5), often(0, limit(2)), down(rate(1, 1))), says{change(called("lag", slow(5)), 10), "91"}, says{change(called("limit", slow(5)), 10), ok}, says{change(often(0, called("limit", hang(5))), 10), ok}, says{change(called("rate", rate(1, 1)), 10), "142"}, says{names(), "lag,limit lag5 0"})
	// A refused one tells no tick.
	row(t, "R2", 9, toxics(lag(5)), says{change(called("lag", slow(5)), 99), "91"}, says{change(lag(-5), 99), "92"}, says{add(lag(5), 99), "141"}, says{drop("z", 99), "142"}, says{send(10, "ab"), "2"}, says{step(10, 9), " 0"}, says{step(15, 9), "ab 0"})
}

// P12.4, and all of the others together

// watched is a link whose Steps are looked at.
type watched struct {
	*Link
	out  []byte // all that they told
	ends int    // how many ends they told
	late int    // bytes that were told behind one
}

// Step is the link's.
func (w *watched) Step(now, window int) ([]byte, int) {
	b, end := w.Link.Step(now, window)
	if w.ends > 0 {
		w.late += len(b)
	}
	if end != api.Open {
		w.ends++
	}
	w.out = append(w.out, b...)
	return b, end
}

// both is a link, and beside it what it is by the words. What is sent are the bytes 0, 1, 2 and so on.
type both struct {
	k *watched
	m *model
}

// pair is a new link of that room with these toxics, up, at 10, and what it is by the words.
func pair(t *testing.T, room int, l []api.Toxic) *both {
	t.Helper()
	p := &both{&watched{Link: made(t, l, room, 10)}, begun(l, true, 7, room, 10)}
	p.stands(t, "new")
	return p
}

// own is a pair of its own, just so.
func (p *both) own() *both {
	k := *p.k
	k.Link, k.out = p.k.Copy(), slices.Clone(p.k.out)
	return &both{&k, p.m.own()}
}

// stands complains if what the link tells without a tick is not what it is by the words, or not what follows from them.
func (p *both) stands(t *testing.T, what string) {
	t.Helper()
	if n, want := p.k.Counts(), p.m.Counts(); n != want {
		t.Fatalf("P12.1: %s: of %v Counts is %v, not %v", what, p.m.Names(), n, want)
	}
	if n := p.k.State(); n != p.m.State() {
		t.Fatalf("P12.1: %s: of %v State is %d, not %d", what, p.m.Names(), n, p.m.State())
	}
	if is := p.k.Done(); is != p.m.Done() {
		t.Fatalf("P12.1: %s: of %v Done is %v", what, p.m.Names(), is)
	}
	if l := p.k.Names(); !slices.Equal(l, p.m.Names()) {
		t.Fatalf("P12.1: %s: Names are %v, not %v", what, l, p.m.Names())
	}
	if l := p.k.Toxics(); !slices.Equal(l, p.m.Toxics()) {
		t.Fatalf("P12.1: %s: Toxics are %v, not %v", what, l, p.m.Toxics())
	}
	if n := p.k.Counts(); n.Sent != n.Got+n.Held+n.Lost || n.Got != len(p.k.out) {
		t.Fatalf("P12.4: %s: of %v Counts is %v, and %d bytes were told", what, p.m.Names(), n, len(p.k.out))
	}
	if p.k.ends > 1 || p.k.late > 0 || p.k.Done() != (p.k.ends == 1) {
		t.Fatalf("P12.4: %s: of %v %d ends were told, and %d bytes behind one; Done is %v", what, p.m.Names(), p.k.ends, p.k.late, p.k.Done())
	}
}

// step does one thing to both, and complains if they tell different ones, or if what came out is not the first of what was sent.
func (p *both) step(t *testing.T, x thing) {
	t.Helper()
	was, from := p.m.Names(), len(p.k.out)
	if told, want := x.do(p.k), x.do(p.m); told != want {
		t.Fatalf("%s: of %v %s tells %.100q, not %.100q", x.promise, was, x.what, told, want)
	}
	for k := from; k < len(p.k.out); k++ {
		if p.k.out[k] != byte(k) {
			t.Fatalf("P12.4: of %v %s tells %v behind %d bytes", was, x.what, p.k.out[from:], from)
		}
	}
	p.stands(t, x.what)
}

// steps does these, one after the other.
func (p *both) steps(t *testing.T, l ...thing) {
	t.Helper()
	for _, x := range l {
		p.step(t, x)
	}
}

// starts are toxics of links.
func starts() [][]api.Toxic {
	return [][]api.Toxic{
		nil,
		toxics(lag(2)), toxics(of("lag", api.Latency, 2, 2)), toxics(rate(1, 2)), toxics(slice(2, 1)), toxics(hang(3)), toxics(reset(3)), toxics(limit(4)), toxics(slow(2)),
		toxics(lag(2), limit(3)), toxics(limit(3), down(lag(2)), slow(1)), toxics(often(50, lag(1)), often(50, hang(3)), often(50, slow(2))), toxics(often(0, limit(1)), lag(1), reset(3)),
		toxics(down(limit(0)), slow(1), lag(1)), toxics(slice(1, 1), rate(2, 3), often(0, slow(3))),
	}
}

// calls are things that may be done to a link that began at 10.
func calls() []thing {
	return []thing{
		flow(10, 3), flow(12, 7), step(9, 1), step(11, 9), step(13, 2), finish(11), cut(11),
		add(called("z", lag(1)), 10), add(limit(4), 11), add(often(50, reset(2)), 11), add(slow(2), 12), add(down(hang(1)), 12), add(lag(-1), 12),
		drop("lag", 10), drop("limit", 13), drop("slow", 12), change(lag(3), 11), change(limit(1), 12), change(called("slow", hang(2)), 13), change(down(slow(1)), 13),
	}
}

// goOn does all things in each order, so many steps on. Each one is done to a copy, which must leave what it was copied from.
func (p *both) goOn(t *testing.T, l []thing, steps int) {
	t.Helper()
	if steps == 0 {
		p.steps(t, step(13, 2), step(14, 1), finish(14), step(14, 9), step(16, 3), step(17, 9), step(19, 9), step(30, 0), step(50, 9), step(50, 9))
		return
	}
	for _, x := range l {
		next := p.own()
		next.step(t, x)
		next.goOn(t, l, steps-1)
	}
	p.stands(t, "its copies went on")
}

func TestEachRunOfThree(t *testing.T) {
	for _, l := range starts() {
		p := pair(t, 4, l)
		p.steps(t, flow(10, 4), step(10, 1), flow(10, 2))
		p.goOn(t, calls(), 3)
		pair(t, 4, l).goOn(t, calls(), 2)
	}
}

// some is a toxic by chance; none of those that end, if it is told so.
func some(chance *rand.Rand, ends bool) api.Toxic {
	a, b := chance.Intn(9), chance.Intn(5)
	if chance.Intn(20) == 0 && ends {
		a = chance.Intn(1 << 40)
	}
	l := toxics(lag(a), of("lag", api.Latency, a+b, b), rate(1+a, 1+b), slice(min(1+a, 4096), b), slow(a))
	if ends {
		l = append(l, hang(min(4*a+1, top)), reset(min(6*a+1, top)), limit(min(5*a, top)), rate(0, 1+b))
	}
	x := l[chance.Intn(len(l))]
	x.Often, x.Up = []int{100, 100, 50, 0}[chance.Intn(4)], chance.Intn(5) > 0
	if chance.Intn(2) == 0 {
		x.Name = string(rune('a' + chance.Intn(9)))
	}
	return x
}

// aTick is a tick by chance: mostly a little later than the clock, at times an edge.
func aTick(chance *rand.Rand, clock int, ends bool) int {
	switch chance.Intn(60) {
	case 0:
		if ends && chance.Intn(5) == 0 {
			return edges()[chance.Intn(12)]
		}
		return edges()[chance.Intn(5)]
	case 1:
		return clock - chance.Intn(5)
	}
	return clock + chance.Intn(3)*chance.Intn(2)
}

// aThing is one by chance for a link of these names at that clock.
func aThing(chance *rand.Rand, names []string, now int, ends bool) thing {
	x := some(chance, ends)
	if len(names) > 0 && chance.Intn(3) > 0 {
		x.Name = names[chance.Intn(len(names))]
	}
	switch chance.Intn(40) {
	case 0, 1, 2:
		return add(some(chance, ends), now)
	case 3, 4:
		return drop(x.Name, now)
	case 5, 6, 7:
		return change(x, now)
	case 8:
		return add(called("A", x), now)
	case 9:
		if ends && chance.Intn(4) == 0 {
			return cut(now)
		}
	case 10:
		if chance.Intn(3) == 0 {
			return finish(now)
		}
	}
	if chance.Intn(3) == 0 {
		return flow(now, chance.Intn(12))
	}
	return step(now, chance.Intn(12)-1)
}

// run does things by chance to a new pair, and tells it, and its clock.
func run(t *testing.T, chance *rand.Rand, ends bool) (*both, int) {
	t.Helper()
	var l []api.Toxic
	for k := range chance.Intn(9) {
		l = append(l, called(string(rune('a'+k)), some(chance, ends)))
	}
	p, clock := pair(t, 1+chance.Intn(20), l), 10
	for range 150 {
		now := aTick(chance, clock, ends)
		if now < 1<<20 {
			clock = max(clock, now)
		}
		p.step(t, aThing(chance, p.m.Names(), now, ends))
		if chance.Intn(40) == 0 {
			p = p.own()
		}
	}
	return p, clock
}

func TestRunsByChance(t *testing.T) {
	chance := rand.New(rand.NewSource(12))
	for range 4000 {
		run(t, chance, true)
	}
}

// TestAllComesThrough: of toxics that end nothing, without Cut, in the end all came that was sent, and the end is Closed.
func TestAllComesThrough(t *testing.T) {
	chance := rand.New(rand.NewSource(124))
	for range 1000 {
		p, now := run(t, chance, false)
		p.step(t, finish(now))
		for end := now + 5000; now < end && !p.k.Done(); now++ {
			p.step(t, step(now, 7))
		}
		if n := p.k.Counts(); !p.k.Done() || p.k.State() != api.Closed || n != (Counts{Sent: n.Sent, Got: n.Sent}) {
			t.Fatalf("P12.4: of %v the counts are %v in the end, and it is %d", p.k.Toxics(), n, p.k.State())
		}
	}
}

// R5, R6, R7

func TestBytesAreTheirOwn(t *testing.T) {
	k := made(t, nil, 9, 0)
	in := []byte("abcdef")
	k.Send(0, in)
	if string(in) != "abcdef" {
		t.Errorf("R5: what is sent becomes %q", in)
	}
	copy(in, "xxxxxx")
	first, _ := k.Step(0, 3)
	other, got := k.Copy(), string(first)
	copy(first, "yyy")
	_ = append(first, "zzzzzz"...)
	if b, _ := k.Step(0, 9); got != "abc" || string(b) != "def" {
		t.Errorf("R6: Step tells %q, and then %q", got, b)
	}
	if b, _ := other.Step(0, 9); string(b) != "def" {
		t.Errorf("R6: Step of the copy tells %q", b)
	}
}

func TestTheSameCallsTellTheSame(t *testing.T) {
	for seed := range int64(100) {
		told := func() (s string) {
			chance := rand.New(rand.NewSource(seed))
			k, _ := New(toxics(often(50, slice(5, 1)), often(50, of("lag", api.Latency, 5, 5))), true, uint64(seed), 9, 0)
			for now := range 60 {
				s += flow(now, 5).do(k) + aThing(chance, k.Names(), now, true).do(k) + step(now, 4).do(k) + counts().do(k)
			}
			return s
		}
		if a, b := told(), told(); a != b {
			t.Fatalf("R7: of the seed %d the same calls tell different ones", seed)
		}
	}
}
