package conn

import (
	"fmt"
	"math"
	"math/rand"
	"slices"
	"strings"
	"testing"

	"chicane/api"
	"chicane/dice"
	"chicane/link"
	"chicane/toxic"
)

const top = api.MaxTick

// connlike is what a connection does, and its model too.
type connlike interface {
	Send(way, now int, b []byte) int
	Finish(way, now int)
	Cut(now int)
	Step(now int, window [2]int) [2]Out
	Add(t api.Toxic, now int) api.Errno
	Drop(name string, now int) api.Errno
	Change(t api.Toxic, now int) api.Errno
	Counts(way int) link.Counts
	Over() bool
	Names() []string
}

// model is a connection by the words of the chapter: a link up, one down, and all names with the way of each.
type model struct {
	up, down *link.Link
	names    []string
	ups      []bool
}

// begun is the model of a new connection, for toxics that may be.
func begun(l []api.Toxic, seed uint64, room, now int) *model {
	m := &model{}
	m.up, _ = link.New(l, true, dice.Stream(seed, 0), room, now)
	m.down, _ = link.New(l, false, dice.Stream(seed, 1), room, now)
	for _, x := range l {
		m.names, m.ups = append(m.names, x.Name), append(m.ups, x.Up)
	}
	return m
}

// own is a model that shares nothing with m.
func (m *model) own() *model {
	return &model{m.up.Copy(), m.down.Copy(), append([]string(nil), m.names...), append([]bool(nil), m.ups...)}
}

// at is which name it is; -1, if there is none.
func (m *model) at(name string) int {
	for k := len(m.names) - 1; k >= 0; k-- {
		if m.names[k] == name {
			return k
		}
	}
	return -1
}

// of is the link up, or the one down.
func (m *model) of(up bool) *link.Link {
	if up {
		return m.up
	}
	return m.down
}

// Names, Counts and Over are those of P13.1.
func (m *model) Names() []string { return append([]string(nil), m.names...) }
func (m *model) Over() bool      { return m.up.Done() && m.down.Done() }

func (m *model) Counts(way int) link.Counts {
	if way != 0 && way != 1 {
		return link.Counts{}
	}
	return m.of(way == 0).Counts()
}

// Send, Finish, Cut and Step are those of P13.2.
func (m *model) Send(way, now int, b []byte) int {
	if way != 0 && way != 1 {
		return 0
	}
	return m.of(way == 0).Send(now, b)
}

func (m *model) Finish(way, now int) {
	if way == 0 || way == 1 {
		m.of(way == 0).Finish(now)
	}
}

func (m *model) Cut(now int) {
	m.up.Cut(now)
	m.down.Cut(now)
}

func (m *model) Step(now int, window [2]int) [2]Out {
	a, up := m.up.Step(now, window[0])
	b, down := m.down.Step(now, window[1])
	switch {
	case up == api.Broken && !m.down.Done():
		m.down.Cut(now)
		_, down = m.down.Step(now, 0)
	case down == api.Broken && !m.up.Done():
		m.up.Cut(now)
		_, up = m.up.Step(now, 0)
	}
	return [2]Out{{string(a), up}, {string(b), down}}
}

// Add, Drop and Change are those of P13.3.
func (m *model) Add(x api.Toxic, now int) api.Errno {
	e := toxic.Check(x)
	switch {
	case e != api.OK:
		return e
	case m.at(x.Name) >= 0:
		return api.ErrNameThere
	case len(m.of(x.Up).Names()) >= 8:
		return api.ErrChainPlace
	}
	m.names, m.ups = append(m.names, x.Name), append(m.ups, x.Up)
	return m.of(x.Up).Add(x, now)
}

func (m *model) Drop(name string, now int) api.Errno {
	at := m.at(name)
	if at == -1 {
		return api.ErrNameNone
	}
	k := m.of(m.ups[at])
	m.names = append(append([]string(nil), m.names[:at]...), m.names[at+1:]...)
	m.ups = append(append([]bool(nil), m.ups[:at]...), m.ups[at+1:]...)
	return k.Drop(name, now)
}

func (m *model) Change(x api.Toxic, now int) api.Errno {
	e, at := toxic.Check(x), m.at(x.Name)
	switch {
	case e != api.OK:
		return e
	case at == -1 || m.ups[at] != x.Up:
		return api.ErrNameNone
	}
	return m.of(x.Up).Change(x, now)
}

// thing is one that may be done, and what it tells, as a text.
type thing struct {
	promise, what string
	do            func(c connlike) string
}

// send, finish, cut, step, add, drop and change are to do that.
func send(way, now int, b string) thing {
	return thing{"P13.2", fmt.Sprintf("Send(%d, %d, %.40q)", way, now, b), func(c connlike) string { return fmt.Sprint(c.Send(way, now, []byte(b))) }}
}

func finish(way, now int) thing {
	return thing{"P13.2", fmt.Sprintf("Finish(%d, %d)", way, now), func(c connlike) string { c.Finish(way, now); return "" }}
}

func cut(now int) thing {
	return thing{"P13.2", fmt.Sprintf("Cut(%d)", now), func(c connlike) string { c.Cut(now); return "" }}
}

func step(now, up, down int) thing {
	return thing{"P13.2", fmt.Sprintf("Step(%d, (%d, %d))", now, up, down), func(c connlike) string {
		out := c.Step(now, [2]int{up, down})
		return fmt.Sprint(out[0].B, " ", out[0].End, ", ", out[1].B, " ", out[1].End)
	}}
}

func add(x api.Toxic, now int) thing {
	return thing{"P13.3", fmt.Sprintf("Add(%v, %d)", x, now), func(c connlike) string { return fmt.Sprint(int(c.Add(x, now))) }}
}

func drop(name string, now int) thing {
	return thing{"P13.3", fmt.Sprintf("Drop(%.40q, %d)", name, now), func(c connlike) string { return fmt.Sprint(int(c.Drop(name, now))) }}
}

func change(x api.Toxic, now int) thing {
	return thing{"P13.3", fmt.Sprintf("Change(%v, %d)", x, now), func(c connlike) string { return fmt.Sprint(int(c.Change(x, now))) }}
}

// counts, over and names are to ask that.
func counts(way int) thing {
	return thing{"P13.1", fmt.Sprintf("Counts(%d)", way), func(c connlike) string { return fmt.Sprint(c.Counts(way)) }}
}

func over() thing {
	return thing{"P13.1", "Over", func(c connlike) string { return fmt.Sprint(c.Over()) }}
}

func names() thing {
	return thing{"P13.1", "Names", func(c connlike) string { return strings.Join(c.Names(), ",") }}
}

// flow is to send so many bytes that follow those which were sent that way: 0, 1, 2 and so on up, and from 100 on down.
func flow(way, now, n int) thing {
	return thing{"P13.2", fmt.Sprintf("Send(%d, %d, of %d bytes)", way, now, n), func(c connlike) string {
		b := make([]byte, n)
		for i := range b {
			b[i] = flowed(way, c.Counts(way).Sent+i)
		}
		return fmt.Sprint(c.Send(way, now, b))
	}}
}

// flowed is the byte k of those.
func flowed(way, k int) byte { return byte(100*way + k) }

// What a call tells that ends well, and what Step tells if nothing came.
const (
	ok   = "0"
	none = " 0,  0"
)

// says is one thing, and what is told of it.
type says struct {
	do   thing
	want string
}

// row does these things to a new connection of that room with these toxics, from 10 on, and complains if another thing is told than is written here.
func row(t *testing.T, promise string, room int, l []api.Toxic, do ...says) {
	t.Helper()
	rowOf(t, promise, made(t, l, room, 10), do...)
}

// rowOf does them to that connection.
func rowOf(t *testing.T, promise string, c *Conn, do ...says) {
	t.Helper()
	for i, y := range do {
		if told := y.do.do(c); told != y.want {
			t.Errorf("%s: the thing %d, %s, of %v tells %q, not %q", promise, i, y.do.what, c.Names(), told, y.want)
		}
	}
}

// made is a new connection.
func made(t *testing.T, l []api.Toxic, room, now int) *Conn {
	t.Helper()
	c, e := New(l, 7, room, now)
	if e != api.OK || c == nil {
		t.Fatalf("P13.1: New(%v, 7, %d, %d) is %d", l, room, now, e)
	}
	return c
}

// of is a toxic of that name and kind, up, and always there.
func of(name string, kind, a, b int) api.Toxic {
	return api.Toxic{Name: name, Kind: kind, Up: true, Often: 100, A: a, B: b}
}

// down is the toxic on the other way; often it is there so often; called has another name.
func down(x api.Toxic) api.Toxic {
	x.Up = false
	return x
}

func often(n int, x api.Toxic) api.Toxic {
	x.Often = n
	return x
}

func called(name string, x api.Toxic) api.Toxic {
	x.Name = name
	return x
}

// back is x down, and called by its name and a 2.
func back(x api.Toxic) api.Toxic { return called(x.Name+"2", down(x)) }

// toxics is a list of them.
func toxics(l ...api.Toxic) []api.Toxic { return l }

// lag, rate, slice, hang, reset, limit and slow are toxics of these numbers, up, named by what they are.
func lag(a int) api.Toxic      { return of("lag", api.Latency, a, 0) }
func rate(a, b int) api.Toxic  { return of("rate", api.Bandwidth, a, b) }
func slice(a, b int) api.Toxic { return of("slice", api.Slicer, a, b) }
func hang(a int) api.Toxic     { return of("hang", api.Timeout, a, 0) }
func reset(a int) api.Toxic    { return of("reset", api.Reset, a, 0) }
func limit(a int) api.Toxic    { return of("limit", api.Limit, a, 0) }
func slow(a int) api.Toxic     { return of("slow", api.Slow, a, 0) }

// eight are as many toxics as a way may have, of the names a to h, that do nothing.
func eight(up bool) []api.Toxic {
	var l []api.Toxic
	for k := range 8 {
		x := called(string(rune('a'+k)), lag(0))
		x.Up = up
		l = append(l, x)
	}
	return l
}

// edges are numbers at, and beyond, the ends of what a tick may be.
func edges() []int {
	return []int{math.MinInt, -top, -1, 0, 1, 1<<32 - 1, 1 << 32, top - 1, top, top + 1, 1 << 62, math.MaxInt}
}

// strange are numbers that are no ways.
func strange() []int {
	return []int{math.MinInt, -(1 << 32), -2, -1, 2, 3, 255, 256, 257, 1 << 32, 1<<32 + 1, math.MaxInt}
}

// refusal is a toxic that may not be, and why.
type refusal struct {
	x    api.Toxic
	want api.Errno
}

// wrong are such ones.
func wrong() []refusal {
	return []refusal{
		{api.Toxic{}, api.ErrToxicForm}, {called("", lag(1)), api.ErrToxicForm}, {called("A", lag(-1)), api.ErrToxicForm}, {called("a b", lag(1)), api.ErrToxicForm}, {called("abcdefghijklmnopq", lag(1)), api.ErrToxicForm},
		{of("z", api.Pass, 0, 0), api.ErrToxicKind}, {of("z", 8, 1, 1), api.ErrToxicKind}, {often(101, of("z", -1, 1, 1)), api.ErrToxicKind},
		{often(-1, lag(1)), api.ErrToxicPart}, {often(101, lag(1)), api.ErrToxicPart}, {lag(-1), api.ErrToxicPart}, {lag(top + 1), api.ErrToxicPart}, {of("z", api.Latency, 3, 4), api.ErrToxicPart}, {rate(1, 0), api.ErrToxicPart}, {hang(0), api.ErrToxicPart}, {of("z", api.Limit, 1, 1), api.ErrToxicPart},
	}
}

func TestExample(t *testing.T) {
	c, _ := New(toxics(reset(3)), 0, 9, 0)
	n := c.Send(Down, 0, []byte("ab"))
	out := c.Step(3, [2]int{9, 9})
	if n != 2 || out != [2]Out{{"", api.Broken}, {"ab", api.Broken}} || !c.Over() {
		t.Errorf("P13.2: the chapter's example: %d; %v; %v", n, out, c.Over())
	}
	if Up != 0 || Down != 1 {
		t.Errorf("P13.1: Up and Down are %d and %d", Up, Down)
	}
}

// P13.1

func TestNew(t *testing.T) {
	for _, room := range []int{1, 2, 4095, 4096} {
		for _, now := range edges() {
			for _, seed := range []uint64{0, 42, math.MaxUint64} {
				c, e := New(nil, seed, room, now)
				if e != api.OK || c == nil {
					t.Fatalf("P13.1: New(none, %d, %d, %d) is %d", seed, room, now, e)
				}
				if c.Over() || c.Counts(Up) != (link.Counts{}) || c.Counts(Down) != (link.Counts{}) || len(c.Names()) != 0 {
					t.Errorf("P13.1: New(none, %d, %d, %d) is not so: %v, %v, %v, %v", seed, room, now, c.Over(), c.Counts(Up), c.Counts(Down), c.Names())
				}
				for _, way := range []int{Down, Up} {
					if n := c.Send(way, now, make([]byte, 5000)); n != room {
						t.Errorf("P13.1: New(none, %d, %d, %d) has room for %d on the way %d", seed, room, now, n, way)
					}
				}
			}
		}
	}
}

// TestNewBeginsAtNow: the toxics of both ways do, too.
func TestNewBeginsAtNow(t *testing.T) {
	rowOf(t, "P13.1", made(t, toxics(reset(4)), 9, 12), says{step(15, 9, 9), none}, says{step(16, 9, 9), " 2,  2"})
	rowOf(t, "P13.1", made(t, toxics(down(reset(4))), 9, 12), says{step(15, 9, 9), none}, says{step(16, 9, 9), " 2,  2"})
	rowOf(t, "P13.1", made(t, toxics(hang(4), back(hang(5))), 9, math.MinInt), says{step(3, 9, 9), none}, says{step(4, 9, 9), " 1,  0"}, says{step(5, 9, 9), " 0,  1"})
}

func TestNewRefuses(t *testing.T) {
	nine := append(eight(true), lag(1))
	refused := func(l []api.Toxic, room int, want api.Errno) {
		t.Helper()
		given := slices.Clone(l)
		if c, e := New(l, 0, room, 0); e != want || c != nil {
			t.Errorf("P13.1: New(%v, 0, %d, 0) is %v, %d, not %d", l, room, c, e, want)
		}
		for _, up := range []bool{true, false} {
			if _, e := link.New(l, up, 0, room, 0); e != want {
				t.Errorf("P13.1: link.New(%v, %v, 0, %d, 0) is %d, not %d", l, up, room, e, want)
			}
		}
		if !slices.Equal(l, given) {
			t.Errorf("R5: of %v there is %v behind New", given, l)
		}
	}
	for _, room := range []int{math.MinInt, -1, 0, 4097, 1<<32 + 1, math.MaxInt} {
		refused(nil, room, api.ErrArg)
		refused(toxics(lag(1), down(slow(1))), room, api.ErrArg)
		refused(toxics(lag(-1), lag(1), lag(1)), room, api.ErrArg)
		refused(nine, room, api.ErrArg)
	}
	// There are too many, of whatever ways.
	refused(nine, 9, api.ErrArg)
	refused(append(eight(true), down(lag(1))), 9, api.ErrArg)
	refused(append(eight(false), lag(1)), 9, api.ErrArg)
	refused(make([]api.Toxic, 9), 9, api.ErrArg)
	refused(slices.Repeat(toxics(lag(1)), 5000), 9, api.ErrArg)
	// The first one that may not be, on whatever way, and whatever name others have.
	for _, x := range wrong() {
		for _, y := range wrong() {
			refused(toxics(x.x, down(y.x)), 9, x.want)
			refused(toxics(down(x.x), y.x), 9, x.want)
		}
		refused(toxics(lag(1), down(slow(1)), x.x), 9, x.want)
		refused(toxics(slow(1), down(slow(1)), x.x), 9, x.want)
		refused(toxics(slow(1), slow(1), down(x.x)), 9, x.want)
	}
	// Two of one name, on whatever ways.
	refused(toxics(lag(1), lag(1)), 9, api.ErrNameThere)
	refused(toxics(lag(1), down(lag(1))), 9, api.ErrNameThere)
	refused(toxics(down(lag(1)), called("lag", slow(2))), 9, api.ErrNameThere)
	refused(toxics(down(lag(1)), down(lag(1))), 9, api.ErrNameThere)
	refused(toxics(often(0, lag(1)), often(0, down(lag(1)))), 9, api.ErrNameThere)
}

// TestNewHasThemOnTheirWays: and all names, in their order.
func TestNewHasThemOnTheirWays(t *testing.T) {
	row(t, "P13.1", 9, toxics(down(limit(3)), called("u", limit(2)), called("x", down(lag(5)))),
		says{names(), "limit,u,x"}, says{send(Up, 10, "abcd"), "4"}, says{send(Down, 10, "vwxyz"), "5"}, says{step(10, 9, 9), "ab 1,  0"}, says{step(15, 9, 9), " 0, vwx 1"}, says{counts(Up), "{4 2 0 2}"}, says{counts(Down), "{5 3 0 2}"})
	row(t, "P13.1", 9, eight(true), says{names(), "a,b,c,d,e,f,g,h"})
	row(t, "P13.1", 9, eight(false), says{names(), "a,b,c,d,e,f,g,h"})
	row(t, "P13.1", 9, toxics(slow(1), back(slow(1)), often(0, lag(1)), often(0, back(lag(1)))), says{names(), "slow,slow2,lag,lag2"})
	// The first one is next to where bytes are sent, either way.
	row(t, "P13.1", 9, toxics(limit(2), down(called("x", lag(5))), lag(5), down(called("y", limit(2)))),
		says{names(), "limit,x,lag,y"}, says{send(Up, 10, "abc"), "3"}, says{send(Down, 10, "abc"), "3"}, says{step(10, 9, 9), none}, says{counts(Up), "{3 0 2 1}"}, says{counts(Down), "{3 0 3 0}"}, says{step(15, 9, 9), "ab 1, ab 1"})
}

// TestDrawn: of the seed and the way, whether each one is there, by its number among those of its way.
func TestDrawn(t *testing.T) {
	l := toxics(lag(1), often(50, back(limit(0))), back(lag(1)), often(50, limit(0)))
	for seed := range uint64(300) {
		seed *= 0x123456789abcdef
		c, e := New(l, seed, 9, 0)
		if e != api.OK {
			t.Fatalf("P13.1: New is %d", e)
		}
		up, _ := dice.Percent(dice.Stream(dice.Stream(seed, 0), 1), 50)
		down, _ := dice.Percent(dice.Stream(dice.Stream(seed, 1), 0), 50)
		if out := c.Step(0, [2]int{}); (out[Up].End == api.Closed) != up || (out[Down].End == api.Closed) != down {
			t.Fatalf("P13.1: of the seed %d the limits are told %v; there are %v, %v", seed, out, up, down)
		}
	}
}

// TestDiceOfTheWays: each link's dice are those of the seed and its way.
func TestDiceOfTheWays(t *testing.T) {
	l := toxics(slice(90, 0), back(slice(90, 0)))
	b := []byte(strings.Repeat("x", 99))
	for _, seed := range []uint64{0, 1, 42, 1 << 63, math.MaxUint64} {
		c, _ := New(l, seed, 99, 0)
		c.Send(Up, 0, b)
		c.Send(Down, 0, b)
		out := c.Step(0, [2]int{99, 99})
		for way, up := range []bool{true, false} {
			k, _ := link.New(l, up, dice.Stream(seed, uint64(way)), 99, 0)
			k.Send(0, b)
			if want, _ := k.Step(0, 99); out[way].B != string(want) {
				t.Errorf("P13.1: of the seed %d the first slice of the way %d is of %d, not %d", seed, way, len(out[way].B), len(want))
			}
		}
	}
}

func TestCountsAndOver(t *testing.T) {
	row(t, "P13.1", 2, toxics(down(lag(3))),
		says{send(Up, 10, "abc"), "2"}, says{send(Down, 10, "x"), "1"}, says{counts(Up), "{2 0 2 0}"}, says{counts(Down), "{1 0 1 0}"}, says{step(10, 1, 9), "a 0,  0"}, says{counts(Up), "{2 1 1 0}"}, says{counts(Down), "{1 0 1 0}"},
		says{finish(Up, 10), ""}, says{over(), "false"}, says{step(10, 9, 9), "b 1,  0"}, says{over(), "false"}, says{counts(Up), "{2 2 0 0}"},
		says{cut(11), ""}, says{over(), "false"}, says{counts(Down), "{1 0 0 1}"}, says{step(11, 9, 9), " 0,  2"}, says{over(), "true"}, says{counts(Up), "{2 2 0 0}"}, says{counts(Down), "{1 0 0 1}"}, says{step(11, 9, 9), none}, says{over(), "true"})
	row(t, "P13.1", 9, nil, says{finish(Down, 10), ""}, says{step(10, 9, 9), " 0,  1"}, says{over(), "false"}, says{finish(Up, 10), ""}, says{over(), "false"}, says{step(10, 9, 9), " 1,  0"}, says{over(), "true"})
}

func TestNamesAreTheirOwn(t *testing.T) {
	l := toxics(lag(3), often(0, down(slow(2))), limit(4))
	c := made(t, l, 9, 10)
	l[0], l[1], l[2] = slow(9), slow(9), slow(9)
	n := c.Names()
	n[0], n[2] = "q", "r"
	_ = append(n[:1], "s")
	rowOf(t, "R6", c, says{names(), "lag,slow,limit"}, says{drop("q", 10), "142"}, says{add(down(slice(1, 1)), 10), ok}, says{drop("lag", 10), ok}, says{names(), "slow,limit,slice"})
	if n[0] != "q" || n[2] != "r" {
		t.Errorf("R6: what Names told becomes %v", n)
	}
}

func TestCopyIsItsOwn(t *testing.T) {
	for _, l := range starts() {
		p := pair(t, 9, l)
		p.steps(t, flow(Up, 10, 6), flow(Down, 10, 5), step(10, 2, 1), flow(Up, 10, 3), finish(Down, 11), step(11, 0, 0))
		other := p.own()
		other.stands(t, "a copy")
		other.steps(t, flow(Up, 12, 2), step(12, 3, 3), drop("lag", 12), drop("slow2", 12), add(called("z", lag(1)), 12), add(called("y", down(lag(1))), 12), change(limit(9), 12), step(14, 1, 1), cut(14), step(14, 9, 9))
		p.stands(t, "its copy was changed")
		other = p.own()
		p.steps(t, step(13, 2, 2), drop("limit2", 13), drop("lag", 13), add(called("x", down(lag(1))), 13), add(called("w", slow(1)), 13), change(back(slow(9)), 13), step(15, 9, 9), cut(15), step(15, 9, 9))
		other.stands(t, "what it was copied from was changed")
		other.steps(t, flow(Up, 13, 1), step(13, 9, 9), step(20, 9, 9), step(30, 9, 9), step(40, 9, 9))
		again := other.own()
		again.stands(t, "a copy of what may be over")
		again.steps(t, step(40, 9, 9), step(50, 9, 9))
	}
}

// P13.2

func TestSend(t *testing.T) {
	row(t, "P13.2", 3, nil, says{send(Up, 10, ""), "0"}, says{send(Up, 10, "ab"), "2"}, says{send(Down, 10, "xyz"), "3"}, says{send(Up, 10, "cd"), "1"}, says{send(Up, 10, "d"), "0"}, says{send(Down, 10, "z"), "0"}, says{step(10, 2, 1), "ab 0, x 0"}, says{counts(Up), "{3 2 1 0}"}, says{counts(Down), "{3 1 2 0}"}, says{step(10, 9, 9), "c 0, yz 0"})
	row(t, "P13.2", 9, nil, says{cut(10), ""}, says{send(Up, 10, "b"), "0"}, says{send(Down, 10, "b"), "0"}, says{counts(Up), "{0 0 0 0}"})
	row(t, "P13.2", 9, toxics(lag(5)), says{send(Up, 12, "a"), "1"}, says{send(Down, 12, "b"), "1"}, says{step(12, 9, 9), " 0, b 0"}, says{step(16, 9, 9), none}, says{step(17, 9, 9), "a 0,  0"})
	long := strings.Repeat("ab", 3000)
	row(t, "P13.2", 4096, nil, says{send(Down, math.MaxInt, long), "4096"}, says{step(math.MaxInt, 0, math.MaxInt), " 0, " + long[:4096] + " 0"})
}

func TestFinish(t *testing.T) {
	row(t, "P13.2", 9, nil, says{send(Up, 10, "ab"), "2"}, says{send(Down, 10, "xy"), "2"}, says{finish(Up, 10), ""}, says{finish(Up, 10), ""}, says{send(Up, 10, "c"), "0"}, says{send(Down, 10, "z"), "1"}, says{step(10, 1, 1), "a 0, x 0"}, says{step(10, 9, 9), "b 1, yz 0"}, says{step(10, 9, 9), none}, says{over(), "false"},
		says{finish(Up, 10), ""}, says{send(Down, 10, "q"), "1"}, says{finish(Down, 11), ""}, says{send(Down, 11, "r"), "0"}, says{step(11, 9, 9), " 0, q 1"}, says{over(), "true"}, says{step(11, 9, 9), none})
	row(t, "P13.2", 9, toxics(down(slow(3))), says{finish(Down, 10), ""}, says{finish(Up, 10), ""}, says{step(10, 9, 9), " 1,  0"}, says{step(12, 9, 9), none}, says{step(13, 9, 9), " 0,  1"}, says{over(), "true"})
}

func TestOtherWays(t *testing.T) {
	for _, way := range strange() {
		row(t, "P13.2", 9, toxics(lag(2)), says{send(way, 10, "ab"), "0"}, says{counts(way), "{0 0 0 0}"}, says{counts(Up), "{0 0 0 0}"}, says{counts(Down), "{0 0 0 0}"}, says{finish(way, 99), ""},
			says{send(Up, 10, "ab"), "2"}, says{send(Down, 10, "x"), "1"}, says{counts(way), "{0 0 0 0}"}, says{step(10, 9, 9), " 0, x 0"}, says{finish(way, 10), ""}, says{step(12, 9, 9), "ab 0,  0"}, says{counts(way), "{0 0 0 0}"}, says{over(), "false"})
		row(t, "P13.2", 9, nil, says{cut(10), ""}, says{send(way, 10, "ab"), "0"}, says{finish(way, 10), ""}, says{step(10, 9, 9), " 2,  2"}, says{counts(way), "{0 0 0 0}"})
	}
}

func TestCut(t *testing.T) {
	row(t, "P13.2", 9, toxics(lag(3)), says{send(Up, 10, "ab"), "2"}, says{send(Down, 10, "xyz"), "3"}, says{step(10, 9, 1), " 0, x 0"}, says{cut(10), ""}, says{counts(Up), "{2 0 0 2}"}, says{counts(Down), "{3 1 0 2}"}, says{over(), "false"}, says{step(10, 9, 9), " 2,  2"}, says{over(), "true"}, says{step(20, 9, 9), none}, says{cut(20), ""}, says{step(20, 9, 9), none})
	// A way that is Closed stays so; the other one is cut.
	row(t, "P13.2", 9, nil, says{finish(Down, 10), ""}, says{step(10, 9, 9), " 0,  1"}, says{send(Up, 10, "ab"), "2"}, says{cut(10), ""}, says{counts(Up), "{2 0 0 2}"}, says{step(10, 9, 9), " 2,  0"}, says{over(), "true"})
	row(t, "P13.2", 9, nil, says{finish(Up, 10), ""}, says{step(10, 9, 9), " 1,  0"}, says{send(Down, 10, "ab"), "2"}, says{cut(10), ""}, says{counts(Down), "{2 0 0 2}"}, says{step(10, 9, 9), " 0,  2"}, says{over(), "true"})
	// One whose source is closed, but that no Step closed, is cut, too.
	row(t, "P13.2", 9, nil, says{finish(Up, 10), ""}, says{finish(Down, 10), ""}, says{cut(10), ""}, says{step(10, 9, 9), " 2,  2"})
	for _, now := range edges() {
		row(t, "P13.2", 9, toxics(lag(1)), says{send(Up, now, "a"), "1"}, says{cut(now), ""}, says{step(now, 9, 9), " 2,  2"}, says{over(), "true"})
	}
}

// TestStep: each way has its own window.
func TestStep(t *testing.T) {
	for _, up := range []int{math.MinInt, -1, 0, 1, 2, 3, 4, 5, 1 << 32, math.MaxInt} {
		for _, down := range []int{math.MinInt, -1, 0, 1, 2, 3, 4, 5, 1 << 32, math.MaxInt} {
			first := "abcd"[:min(4, max(0, up))] + " 0, " + "vwxyz"[:min(5, max(0, down))] + " 0"
			then := "abcd"[min(4, max(0, up)):] + " 0, " + "vwxyz"[min(5, max(0, down)):] + " 0"
			row(t, "P13.2", 9, nil, says{send(Up, 10, "abcd"), "4"}, says{send(Down, 10, "vwxyz"), "5"}, says{step(10, up, down), first}, says{step(10, 9, 9), then}, says{step(10, 9, 9), none})
		}
	}
	for _, now := range edges() {
		row(t, "P13.2", 9, nil, says{send(Up, now, "ab"), "2"}, says{send(Down, now, "xy"), "2"}, says{step(now, 9, 9), "ab 0, xy 0"}, says{step(now, 9, 9), none})
	}
	row(t, "P13.2", 9, toxics(lag(5), back(lag(7))), says{send(Up, 10, "ab"), "2"}, says{send(Down, 10, "xy"), "2"}, says{step(10, 9, 9), none}, says{step(14, 9, 9), none}, says{step(15, 9, 9), "ab 0,  0"}, says{step(16, 9, 9), none}, says{step(17, 9, 9), " 0, xy 0"})
}

// TestOneBreaksTheOther: what the other one told before that stays.
func TestOneBreaksTheOther(t *testing.T) {
	row(t, "P13.2", 9, toxics(reset(3)), says{send(Up, 10, "ab"), "2"}, says{send(Down, 10, "wxyz"), "4"}, says{step(12, 1, 1), "a 0, w 0"}, says{step(13, 9, 2), " 2, xy 2"}, says{over(), "true"}, says{counts(Up), "{2 1 0 1}"}, says{counts(Down), "{4 3 0 1}"}, says{step(13, 9, 9), none}, says{step(99, 9, 9), none}, says{send(Down, 99, "a"), "0"})
	row(t, "P13.2", 9, toxics(down(reset(3))), says{send(Up, 10, "abcd"), "4"}, says{send(Down, 10, "xy"), "2"}, says{step(12, 1, 1), "a 0, x 0"}, says{step(13, 2, 9), "bc 2,  2"}, says{over(), "true"}, says{counts(Up), "{4 3 0 1}"}, says{counts(Down), "{2 1 0 1}"}, says{step(13, 9, 9), none})
	// What is held behind a toxic is lost.
	row(t, "P13.2", 9, toxics(reset(3), back(lag(4))), says{send(Down, 10, "xy"), "2"}, says{step(10, 9, 9), none}, says{step(13, 9, 9), " 2,  2"}, says{counts(Down), "{2 0 0 2}"})
	row(t, "P13.2", 9, toxics(reset(3), back(lag(3))), says{send(Down, 10, "xy"), "2"}, says{step(10, 9, 9), none}, says{step(13, 9, 9), " 2, xy 2"}, says{counts(Down), "{2 2 0 0}"})
	// A window of 0 lets nothing through, and the end is told all the same.
	row(t, "P13.2", 9, toxics(reset(3)), says{send(Down, 10, "xy"), "2"}, says{step(13, 0, 0), " 2,  2"}, says{counts(Down), "{2 0 0 2}"})
	// Both at once; and of both the one that is due first.
	row(t, "P13.2", 9, toxics(reset(3), back(reset(3))), says{send(Up, 10, "a"), "1"}, says{send(Down, 10, "x"), "1"}, says{step(13, 9, 9), " 2,  2"}, says{step(13, 9, 9), none})
	row(t, "P13.2", 9, toxics(reset(9), back(reset(3))), says{step(13, 9, 9), " 2,  2"}, says{step(19, 9, 9), none})
	// One whose end was told is not told again: it was Closed before, or by this Step.
	row(t, "P13.2", 9, toxics(reset(3)), says{finish(Down, 10), ""}, says{step(10, 9, 9), " 0,  1"}, says{over(), "false"}, says{step(13, 9, 9), " 2,  0"}, says{over(), "true"})
	row(t, "P13.2", 9, toxics(down(reset(3))), says{finish(Up, 10), ""}, says{step(10, 9, 9), " 1,  0"}, says{over(), "false"}, says{step(13, 9, 9), " 0,  2"}, says{over(), "true"})
	row(t, "P13.2", 9, toxics(reset(3)), says{send(Down, 10, "xy"), "2"}, says{finish(Down, 10), ""}, says{step(13, 9, 9), " 2, xy 1"}, says{over(), "true"}, says{step(13, 9, 9), none})
	row(t, "P13.2", 9, toxics(down(reset(3))), says{send(Up, 10, "ab"), "2"}, says{finish(Up, 10), ""}, says{step(13, 9, 9), "ab 1,  2"}, says{over(), "true"}, says{step(13, 9, 9), none})
	// One that would be Closed, but for its window, is not yet.
	row(t, "P13.2", 9, toxics(down(reset(3))), says{send(Up, 10, "ab"), "2"}, says{finish(Up, 10), ""}, says{step(13, 1, 9), "a 2,  2"}, says{counts(Up), "{2 1 0 1}"})
	// That one is Closed breaks nothing.
	row(t, "P13.2", 9, toxics(hang(3)), says{send(Down, 10, "xy"), "2"}, says{step(13, 9, 1), " 1, x 0"}, says{step(13, 9, 9), " 0, y 0"}, says{over(), "false"})
	// One that breaks, but was Closed before that, breaks nothing either.
	row(t, "P13.2", 9, toxics(reset(3)), says{finish(Up, 10), ""}, says{step(10, 9, 9), " 1,  0"}, says{send(Down, 13, "xy"), "2"}, says{step(13, 9, 9), " 0, xy 0"}, says{over(), "false"})
}

// P13.3

func TestAdd(t *testing.T) {
	row(t, "P13.3", 9, toxics(down(slow(1))), says{add(lag(5), 10), ok}, says{add(back(lag(6)), 10), ok}, says{add(limit(2), 10), ok}, says{names(), "slow,lag,lag2,limit"}, says{send(Up, 10, "abc"), "3"}, says{send(Down, 10, "xyz"), "3"}, says{step(10, 9, 9), none}, says{step(15, 9, 9), "ab 1,  0"}, says{step(16, 9, 9), " 0, xyz 0"})
	// It is told the tick, whatever the way.
	row(t, "P13.3", 9, nil, says{add(hang(5), 12), ok}, says{add(back(hang(6)), 12), ok}, says{step(16, 9, 9), none}, says{step(17, 9, 9), " 1,  0"}, says{step(18, 9, 9), " 0,  1"})
	// A connection that is over takes it too.
	row(t, "P13.3", 9, nil, says{cut(10), ""}, says{step(10, 9, 9), " 2,  2"}, says{add(lag(1), 10), ok}, says{add(back(lag(1)), 10), ok}, says{names(), "lag,lag2"}, says{step(10, 9, 9), none}, says{over(), "true"})
	for seed := range uint64(200) { // those that are drawn go on behind those of its way alone
		c, _ := New(toxics(lag(1), back(lag(1)), back(slow(1))), seed, 9, 0)
		c.Add(often(50, limit(0)), 0)
		c.Add(often(50, back(limit(0))), 0)
		up, _ := dice.Percent(dice.Stream(dice.Stream(seed, 0), 1), 50)
		down, _ := dice.Percent(dice.Stream(dice.Stream(seed, 1), 2), 50)
		if out := c.Step(0, [2]int{}); (out[Up].End == api.Closed) != up || (out[Down].End == api.Closed) != down {
			t.Fatalf("P13.3: of the seed %d the limits that were added are told %v; there are %v, %v", seed, out, up, down)
		}
	}
}

// refuses complains if one of l does not tell that error, or changes what may be told.
func refuses(t *testing.T, p *both, what string, want api.Errno, do func(x api.Toxic) api.Errno, l ...api.Toxic) {
	t.Helper()
	for _, x := range l {
		if e := do(x); e != want {
			t.Errorf("P13.3: of %v %s(%v) is %d, not %d", p.m.Names(), what, x, e, want)
		}
		p.stands(t, "a refused "+what)
	}
}

func TestAddRefuses(t *testing.T) {
	for _, l := range [][]api.Toxic{nil, toxics(lag(1), often(0, down(slow(1)))), eight(true), eight(false)} {
		p := pair(t, 9, l)
		add := func(x api.Toxic) api.Errno { return p.c.Add(x, 10) }
		for _, x := range wrong() {
			refuses(t, p, "Add", x.want, add, x.x, down(x.x))
		}
		for _, x := range l {
			refuses(t, p, "Add", api.ErrNameThere, add, x, down(x), often(0, x), called(x.Name, limit(0)), called(x.Name, down(limit(0))))
			refuses(t, p, "Add", api.ErrToxicPart, add, called(x.Name, lag(-1)), called(x.Name, down(lag(-1))))
			refuses(t, p, "Add", api.ErrToxicKind, add, called(x.Name, of("", 9, 0, 0)))
		}
	}
	// Each way has its own eight.
	l := []says{{add(lag(1), 10), "110"}, {add(often(0, lag(1)), 10), "110"}, {add(down(called("a", lag(1))), 10), "141"}, {add(called("a", lag(1)), 10), "141"}}
	for k := range 8 {
		l = append(l, says{add(called("x"+string(rune('a'+k)), down(lag(k))), 10), ok})
	}
	row(t, "P13.3", 9, eight(true), append(l, says{add(down(lag(1)), 10), "110"}, says{add(lag(1), 10), "110"}, says{add(called("xa", lag(1)), 10), "141"}, says{add(down(lag(-1)), 10), "92"}, says{names(), "a,b,c,d,e,f,g,h,xa,xb,xc,xd,xe,xf,xg,xh"},
		says{drop("xc", 10), ok}, says{add(lag(1), 10), "110"}, says{add(down(lag(1)), 10), ok}, says{add(down(slow(1)), 10), "110"}, says{names(), "a,b,c,d,e,f,g,h,xa,xb,xd,xe,xf,xg,xh,lag"}, says{drop("a", 10), ok}, says{add(slow(1), 10), ok}, says{names(), "b,c,d,e,f,g,h,xa,xb,xd,xe,xf,xg,xh,lag,slow"})...)
	row(t, "P13.3", 9, eight(false), says{add(down(lag(1)), 10), "110"}, says{add(lag(1), 10), ok}, says{names(), "a,b,c,d,e,f,g,h,lag"})
	row(t, "P13.3", 9, toxics(often(0, down(limit(0)))), says{add(limit(0), 10), "141"}, says{add(down(called("limit", lag(1))), 10), "141"}, says{names(), "limit"})
}

func TestDrop(t *testing.T) {
	row(t, "P13.3", 9, toxics(lag(1), down(slow(1)), often(0, limit(0)), back(lag(2)), hang(9)),
		says{drop("", 10), "142"}, says{drop("A", 10), "142"}, says{drop("lag ", 10), "142"}, says{drop("lag3", 10), "142"}, says{drop(strings.Repeat("a", 99999), 10), "142"}, says{names(), "lag,slow,limit,lag2,hang"},
		says{drop("slow", 10), ok}, says{drop("slow", 10), "142"}, says{names(), "lag,limit,lag2,hang"}, says{drop("limit", 10), ok}, says{names(), "lag,lag2,hang"}, says{drop("hang", 10), ok}, says{drop("lag", 10), ok}, says{names(), "lag2"}, says{drop("lag2", 10), ok}, says{names(), ""}, says{drop("lag2", 10), "142"})
	// One of the same name comes again, behind the others, on whatever way.
	row(t, "P13.3", 9, toxics(lag(5), slow(1)), says{drop("lag", 10), ok}, says{add(down(lag(5)), 10), ok}, says{names(), "slow,lag"}, says{send(Up, 10, "a"), "1"}, says{send(Down, 10, "x"), "1"}, says{step(10, 9, 9), "a 0,  0"}, says{step(15, 9, 9), " 0, x 0"}, says{drop("lag", 15), ok}, says{add(lag(5), 15), ok}, says{send(Up, 15, "b"), "1"}, says{step(15, 9, 9), none}, says{step(20, 9, 9), "b 0,  0"})
	// What it holds is handed on, at now.
	row(t, "P13.3", 9, toxics(lag(5), back(lag(6))), says{send(Up, 10, "abc"), "3"}, says{send(Down, 10, "xyz"), "3"}, says{step(10, 9, 9), none}, says{drop("lag2", 11), ok}, says{counts(Down), "{3 0 3 0}"}, says{step(11, 9, 9), " 0, xyz 0"}, says{drop("lag", 12), ok}, says{step(12, 9, 9), "abc 0,  0"})
	row(t, "P13.3", 9, toxics(down(lag(5)), back(lag(7))), says{send(Down, 10, "abc"), "3"}, says{step(10, 9, 9), none}, says{drop("lag", 12), ok}, says{step(18, 9, 9), none}, says{step(19, 9, 9), " 0, abc 0"})
	// What it would have done is not done any more.
	row(t, "P13.3", 9, toxics(reset(4), back(reset(5))), says{drop("reset", 14), ok}, says{step(14, 9, 9), none}, says{drop("reset2", 15), ok}, says{send(Up, 15, "ab"), "2"}, says{step(15, 9, 9), "ab 0,  0"})
	// A connection that is over lets it go too.
	row(t, "P13.3", 9, toxics(lag(5), back(lag(5))), says{cut(10), ""}, says{step(10, 9, 9), " 2,  2"}, says{drop("lag2", 10), ok}, says{drop("lag", 10), ok}, says{drop("lag", 10), "142"})
}

func TestChange(t *testing.T) {
	row(t, "P13.3", 9, toxics(lag(5), back(limit(9)), limit(9)), says{change(limit(3), 10), ok}, says{change(back(limit(2)), 10), ok}, says{change(lag(2), 10), ok}, says{names(), "lag,limit2,limit"}, says{send(Up, 10, "abcd"), "4"}, says{send(Down, 10, "wxyz"), "4"}, says{step(10, 9, 9), " 0, wx 1"}, says{step(12, 9, 9), "abc 1,  0"})
	// It is told the tick.
	row(t, "P13.3", 9, toxics(hang(4), back(hang(4))), says{change(hang(9), 13), ok}, says{change(back(hang(9)), 14), ok}, says{step(14, 9, 9), " 0,  1"}, says{step(19, 9, 9), " 1,  0"})
	// How often it is there is not asked again.
	row(t, "P13.3", 9, toxics(lag(5), often(0, back(limit(9)))), says{change(often(0, lag(2)), 10), ok}, says{change(back(limit(0)), 10), ok}, says{send(Up, 10, "ab"), "2"}, says{send(Down, 10, "xy"), "2"}, says{step(10, 9, 9), " 0, xy 0"}, says{step(12, 9, 9), "ab 0,  0"})
	// A connection that is over takes it too.
	row(t, "P13.3", 9, toxics(down(lag(5))), says{cut(10), ""}, says{step(10, 9, 9), " 2,  2"}, says{change(down(lag(6)), 10), ok}, says{change(lag(6), 10), "142"})
}

func TestChangeRefuses(t *testing.T) {
	for _, l := range [][]api.Toxic{nil, toxics(lag(1), often(0, down(slow(1)))), eight(true), eight(false)} {
		p := pair(t, 9, l)
		change := func(x api.Toxic) api.Errno { return p.c.Change(x, 10) }
		for _, x := range wrong() {
			refuses(t, p, "Change", x.want, change, x.x, down(x.x))
		}
		for _, x := range l {
			x.Up = !x.Up
			refuses(t, p, "Change", api.ErrNameNone, change, x, often(0, x))
		}
		refuses(t, p, "Change", api.ErrNameNone, change, limit(0), down(limit(0)), called("z", lag(9)), called("l", down(slow(9))))
	}
	// Of another kind, it is the link's error; but nothing is done of one that was drawn as not there.
	row(t, "P13.3", 9, toxics(lag(5), often(0, down(limit(2)))), says{change(called("lag", slow(5)), 10), "91"}, says{change(down(called("lag", slow(5))), 10), "142"}, says{change(down(called("limit", slow(5))), 10), ok}, says{change(called("limit", slow(5)), 10), "142"}, says{names(), "lag,limit"})
	// A refused one tells no tick.
	row(t, "R2", 9, toxics(lag(5), back(lag(5))), says{change(called("lag", slow(5)), 99), "91"}, says{change(lag(-5), 99), "92"}, says{change(down(lag(7)), 99), "142"}, says{add(lag(5), 99), "141"}, says{add(down(lag(5)), 99), "141"}, says{drop("z", 99), "142"},
		says{send(Up, 10, "ab"), "2"}, says{send(Down, 10, "xy"), "2"}, says{step(10, 9, 9), none}, says{step(15, 9, 9), "ab 0, xy 0"})
}

// P13.4, and all of the others together

// watched is a connection whose Steps are looked at.
type watched struct {
	*Conn
	out  [2][]byte // all that they told
	ends [2][]int  // the ends they told
	late int       // bytes that were told behind one
}

// Step is the connection's.
func (w *watched) Step(now int, window [2]int) [2]Out {
	told := w.Conn.Step(now, window)
	for way, o := range told {
		if len(w.ends[way]) > 0 {
			w.late += len(o.B)
		}
		if o.End != api.Open {
			w.ends[way] = append(w.ends[way], o.End)
		}
		w.out[way] = append(w.out[way], o.B...)
	}
	return told
}

// both is a connection, and beside it what it is by the words. What is sent are the bytes of flow.
type both struct {
	c *watched
	m *model
}

// pair is a new connection of that room with these toxics, at 10, and what it is by the words.
func pair(t *testing.T, room int, l []api.Toxic) *both {
	t.Helper()
	p := &both{&watched{Conn: made(t, l, room, 10)}, begun(l, 7, room, 10)}
	p.stands(t, "new")
	return p
}

// own is a pair of its own, just so.
func (p *both) own() *both {
	c := &watched{Conn: p.c.Copy(), late: p.c.late}
	for way := range c.out {
		c.out[way], c.ends[way] = slices.Clone(p.c.out[way]), slices.Clone(p.c.ends[way])
	}
	return &both{c, p.m.own()}
}

// stands complains if what the connection tells without a tick is not what it is by the words, or not what follows from them.
func (p *both) stands(t *testing.T, what string) {
	t.Helper()
	if is := p.c.Over(); is != p.m.Over() {
		t.Fatalf("P13.1: %s: of %v Over is %v", what, p.m.Names(), is)
	}
	if l := p.c.Names(); !slices.Equal(l, p.m.Names()) {
		t.Fatalf("P13.1: %s: Names are %v, not %v", what, l, p.m.Names())
	}
	for way, ends := range p.c.ends {
		n := p.c.Counts(way)
		if want := p.m.Counts(way); n != want {
			t.Fatalf("P13.1: %s: of %v Counts(%d) is %v, not %v", what, p.m.Names(), way, n, want)
		}
		if n.Sent != n.Got+n.Held+n.Lost || n.Got != len(p.c.out[way]) {
			t.Fatalf("T1: %s: of %v Counts(%d) is %v, and %d bytes were told", what, p.m.Names(), way, n, len(p.c.out[way]))
		}
		if len(ends) > 1 || p.c.late > 0 {
			t.Fatalf("T1: %s: of %v the ends %v were told of the way %d, and %d bytes behind one", what, p.m.Names(), ends, way, p.c.late)
		}
		if slices.Contains(ends, api.Broken) && (!p.c.Over() || len(p.c.ends[1-way]) == 0) {
			t.Fatalf("P13.4: %s: of %v the way %d is Broken; of the other one there is told %v, and Over is %v", what, p.m.Names(), way, p.c.ends[1-way], p.c.Over())
		}
	}
	if is := len(p.c.ends[Up]) > 0 && len(p.c.ends[Down]) > 0; is != p.c.Over() {
		t.Fatalf("P13.1: %s: of %v the ends %v were told, and Over is %v", what, p.m.Names(), p.c.ends, p.c.Over())
	}
}

// step does one thing to both, and complains if they tell different ones, or if what came out is not the first of what was sent.
func (p *both) step(t *testing.T, x thing) {
	t.Helper()
	was, from := p.m.Names(), [2]int{len(p.c.out[Up]), len(p.c.out[Down])}
	if told, want := x.do(p.c), x.do(p.m); told != want {
		t.Fatalf("%s: of %v %s tells %.100q, not %.100q", x.promise, was, x.what, told, want)
	}
	for way, out := range p.c.out {
		for k := from[way]; k < len(out); k++ {
			if out[k] != flowed(way, k) {
				t.Fatalf("T1: of %v %s tells %v on the way %d behind %d bytes", was, x.what, out[from[way]:], way, from[way])
			}
		}
	}
	p.stands(t, x.what)
}

// steps does these, one after the other.
func (p *both) steps(t *testing.T, l ...thing) {
	t.Helper()
	for _, x := range l {
		p.step(t, x)
	}
}

// starts are toxics of connections.
func starts() [][]api.Toxic {
	return [][]api.Toxic{
		nil,
		toxics(lag(2)), toxics(back(lag(2)), reset(3)), toxics(back(reset(3)), slice(2, 1)), toxics(reset(3), back(reset(4))), toxics(hang(3), back(limit(3))),
		toxics(limit(4), back(lag(1)), slow(2), back(slow(1))), toxics(often(50, lag(1)), often(50, down(reset(3))), often(50, back(slow(2)))), toxics(of("lag", api.Latency, 2, 2), back(of("lag", api.Latency, 2, 2)), back(rate(1, 2))),
	}
}

// calls are things that may be done to a connection that began at 10.
func calls() []thing {
	return []thing{
		flow(Up, 10, 3), flow(Down, 12, 7), step(9, 1, 2), step(11, 9, 9), step(13, 2, 9), finish(Up, 11), finish(Down, 12), finish(2, 10), cut(11),
		add(called("z", lag(1)), 10), add(down(limit(4)), 11), add(often(50, reset(2)), 11), add(down(slow(2)), 12), add(lag(-1), 12),
		drop("lag", 10), drop("slow2", 12), drop("reset", 11), change(lag(3), 11), change(back(limit(1)), 12), change(back(slow(4)), 13),
	}
}

// goOn does all things in each order, so many steps on. Each one is done to a copy, which must leave what it was copied from.
func (p *both) goOn(t *testing.T, l []thing, steps int) {
	t.Helper()
	if steps == 0 {
		p.steps(t, step(13, 2, 1), finish(Down, 14), step(14, 9, 1), finish(Up, 15), step(16, 3, 9), step(19, 9, 9), step(50, 9, 9), step(50, 9, 9))
		return
	}
	for _, x := range l {
		next := p.own()
		next.step(t, x)
		next.goOn(t, l, steps-1)
	}
	p.stands(t, "its copies went on")
}

func TestEachRunOfThree(t *testing.T) {
	for _, l := range starts() {
		p := pair(t, 4, l)
		p.steps(t, flow(Up, 10, 4), flow(Down, 10, 3), step(10, 1, 1), flow(Up, 10, 2))
		p.goOn(t, calls(), 3)
		pair(t, 4, l).goOn(t, calls(), 2)
	}
}

// some is a toxic by chance; none of those that end, if it is told so.
func some(chance *rand.Rand, ends bool) api.Toxic {
	a, b := chance.Intn(9), chance.Intn(5)
	if chance.Intn(20) == 0 && ends {
		a = chance.Intn(1 << 40)
	}
	l := toxics(lag(a), of("lag", api.Latency, a+b, b), rate(1+a, 1+b), slice(min(1+a, 4096), b), slow(a))
	if ends {
		l = append(l, hang(min(6*a+1, top)), reset(min(9*a+1, top)), limit(min(5*a, top)), rate(0, 1+b))
	}
	x := l[chance.Intn(len(l))]
	x.Often, x.Up = []int{100, 100, 50, 0}[chance.Intn(4)], chance.Intn(2) > 0
	if chance.Intn(4) > 0 {
		x.Name = string(rune('a' + chance.Intn(16)))
	}
	return x
}

// aTick is a tick by chance: mostly a little later than the clock, at times an edge.
func aTick(chance *rand.Rand, clock int, ends bool) int {
	switch chance.Intn(60) {
	case 0:
		if ends && chance.Intn(5) == 0 {
			return edges()[chance.Intn(12)]
		}
		return edges()[chance.Intn(5)]
	case 1:
		return clock - chance.Intn(5)
	}
	return clock + chance.Intn(3)*chance.Intn(2)
}

// aWay is one by chance, at times none.
func aWay(chance *rand.Rand) int {
	if chance.Intn(30) == 0 {
		return strange()[chance.Intn(12)]
	}
	return chance.Intn(2)
}

// aThing is one by chance for a connection of these names at that clock.
func aThing(chance *rand.Rand, names []string, now int, ends bool) thing {
	x := some(chance, ends)
	if len(names) > 0 && chance.Intn(3) > 0 {
		x.Name = names[chance.Intn(len(names))]
	}
	switch chance.Intn(40) {
	case 0, 1, 2:
		return add(some(chance, ends), now)
	case 3, 4:
		return drop(x.Name, now)
	case 5, 6, 7:
		return change(x, now)
	case 8:
		return add(called("A", x), now)
	case 9:
		if ends && chance.Intn(6) == 0 {
			return cut(now)
		}
	case 10:
		if chance.Intn(4) == 0 {
			return finish(aWay(chance), now)
		}
	}
	if chance.Intn(2) == 0 {
		return flow(aWay(chance), now, chance.Intn(12))
	}
	return step(now, chance.Intn(12)-1, chance.Intn(12)-1)
}

// run does things by chance to a new pair, and tells it, and its clock.
func run(t *testing.T, chance *rand.Rand, ends bool) (*both, int) {
	t.Helper()
	var l []api.Toxic
	for k := range chance.Intn(9) {
		l = append(l, called(string(rune('a'+k)), some(chance, ends)))
	}
	p, clock := pair(t, 1+chance.Intn(20), l), 10
	for range 150 {
		now := aTick(chance, clock, ends)
		if now < 1<<20 {
			clock = max(clock, now)
		}
		p.step(t, aThing(chance, p.m.Names(), now, ends))
		if chance.Intn(40) == 0 {
			p = p.own()
		}
	}
	return p, clock
}

func TestRunsByChance(t *testing.T) {
	chance := rand.New(rand.NewSource(13))
	for range 3000 {
		run(t, chance, true)
	}
}

// TestFull: both ways have eight toxics, and lose and get some by chance.
func TestFull(t *testing.T) {
	chance := rand.New(rand.NewSource(138))
	for range 50 {
		p := pair(t, 9, eight(true))
		for now := 10; now < 200; now++ {
			p.step(t, add(some(chance, false), now))
			if chance.Intn(4) == 0 {
				p.step(t, drop(string(rune('a'+chance.Intn(16))), now))
			}
			p.steps(t, flow(Up, now, chance.Intn(5)), flow(Down, now, chance.Intn(5)), step(now, 3, 3))
		}
	}
}

// TestAllComesThrough: of toxics that end nothing, without Cut, in the end all came that was sent, and both ends are Closed.
func TestAllComesThrough(t *testing.T) {
	chance := rand.New(rand.NewSource(134))
	for range 500 {
		p, now := run(t, chance, false)
		p.steps(t, finish(Up, now), finish(Down, now))
		for end := now + 5000; now < end && !p.c.Over(); now++ {
			p.step(t, step(now, 7, 7))
		}
		for way, ends := range p.c.ends {
			if n := p.c.Counts(way); !slices.Equal(ends, []int{api.Closed}) || n != (link.Counts{Sent: n.Sent, Got: n.Sent}) {
				t.Fatalf("T4: of %v the counts of the way %d are %v in the end, and %v are its ends", p.c.Names(), way, n, ends)
			}
		}
	}
}

// side is a thing that concerns one way alone, or, of none of these, a Step.
type side struct {
	way int
	do  func(c *Conn) string
}

// aSide is one by chance. The names of the ways are other ones, so that no Add of one is refused for the other.
func aSide(chance *rand.Rand, now int) side {
	x, way, n := some(chance, true), chance.Intn(2), chance.Intn(9)
	x.Name, x.Up = fmt.Sprintf("n%d%d", way, chance.Intn(4)), way == Up
	do := map[int]thing{0: add(x, now), 1: drop(x.Name, now), 2: change(x, now)}[chance.Intn(20)]
	switch {
	case do.do != nil:
	case chance.Intn(60) == 0:
		do = finish(way, now)
	default:
		do = flow(way, now, n)
	}
	return side{way, func(c *Conn) string { return do.do(c) }}
}

// TestWaysDoNotHangOnEachOther: with all that goes the other way left out, a way tells the same, till one of them is Broken.
func TestWaysDoNotHangOnEachOther(t *testing.T) {
	chance, broken := rand.New(rand.NewSource(1342)), 0
	for range 3000 {
		seed, room := chance.Uint64(), 1+chance.Intn(12)
		whole, _ := New(nil, seed, room, 0)
		var alone [2]*Conn
		alone[Up], _ = New(nil, seed, room, 0)
		alone[Down], _ = New(nil, seed, room, 0)
		for now := range 60 {
			for range chance.Intn(3) {
				s := aSide(chance, now)
				if told, want := s.do(whole), s.do(alone[s.way]); told != want {
					t.Fatalf("P13.4: with the other way, a call of the way %d tells %q, not %q", s.way, told, want)
				}
			}
			window := [2]int{chance.Intn(6), chance.Intn(6)}
			out := whole.Step(now, window)
			up, down := alone[Up].Step(now, [2]int{window[Up], 0})[Up], alone[Down].Step(now, [2]int{0, window[Down]})[Down]
			if up.End == api.Broken || down.End == api.Broken {
				if out[Up].B != up.B || out[Down].B != down.B || !whole.Over() {
					t.Fatalf("P13.4: where one is Broken there is told %v, not %v, %v", out, up, down)
				}
				broken++
				break
			}
			if out != [2]Out{up, down} {
				t.Fatalf("P13.4: with both ways there is told %v, not %v, %v", out, up, down)
			}
			for way, c := range alone {
				if n := whole.Counts(way); n != c.Counts(way) {
					t.Fatalf("P13.4: with both ways the counts of the way %d are %v, not %v", way, n, c.Counts(way))
				}
			}
		}
	}
	if broken < 100 || broken > 2900 {
		t.Errorf("P13.4: %d runs of 3000 came to be broken", broken)
	}
}

// R5, R6, R7

func TestBytesAreTheirOwn(t *testing.T) {
	for _, way := range []int{Up, Down} {
		c := made(t, nil, 9, 0)
		in := []byte("abcdef")
		c.Send(way, 0, in)
		if string(in) != "abcdef" {
			t.Errorf("R5: what is sent becomes %q", in)
		}
		copy(in, "xxxxxx")
		other := c.Copy()
		first, second := c.Step(0, [2]int{3, 3})[way].B, c.Step(0, [2]int{9, 9})[way].B
		if first != "abc" || second != "def" {
			t.Errorf("R6: Step tells %q, and then %q", first, second)
		}
		if b := other.Step(0, [2]int{9, 9})[way].B; b != "abcdef" {
			t.Errorf("R6: Step of the copy tells %q", b)
		}
	}
}

func TestTheSameCallsTellTheSame(t *testing.T) {
	for seed := range int64(100) {
		told := func() (s string) {
			chance := rand.New(rand.NewSource(seed))
			c, _ := New(toxics(often(50, slice(5, 1)), often(50, back(of("lag", api.Latency, 5, 5)))), uint64(seed), 9, 0)
			for now := range 60 {
				s += flow(Up, now, 5).do(c) + flow(Down, now, 5).do(c) + aThing(chance, c.Names(), now, true).do(c) + step(now, 4, 4).do(c) + counts(Up).do(c) + counts(Down).do(c)
			}
			return s
		}
		if a, b := told(), told(); a != b {
			t.Fatalf("R7: of the seed %d the same calls tell different ones", seed)
		}
	}
}
