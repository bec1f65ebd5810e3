package chain

import (
	"fmt"
	"math"
	"math/rand"
	"slices"
	"strings"
	"testing"

	"chicane/api"
	"chicane/stage"
)

const top = api.MaxTick

// chainlike is what a chain does, and its model too.
type chainlike interface {
	Insert(at int, t api.Toxic, seed uint64, now int) api.Errno
	Remove(at, now int) api.Errno
	Update(at int, t api.Toxic, now int) api.Errno
	Put(now int, b []byte) int
	Close(now int)
	Break(now int)
	Step(now int) int
	Take(now, most int) []byte
	State() int
	Toxics() []api.Toxic
	Held() int
	Lost() int
}

// model is a chain by the words of the chapter: its stages, the inlet first and the outlet last, and of which of them the source was closed.
type model struct {
	list              []*stage.Stage
	ended             []bool
	room, state, lost int
	shut              bool
}

// begun is the model of a new chain.
func begun(room, now int) *model {
	inlet, _ := stage.New(api.Toxic{}, 0, room, now)
	outlet, _ := stage.New(api.Toxic{}, 0, room, now)
	return &model{list: []*stage.Stage{inlet, outlet}, ended: []bool{false, false}, room: room}
}

// own is a model that shares nothing with m.
func (m *model) own() *model {
	other := *m
	other.list, other.ended = nil, nil
	for k, s := range m.list {
		other.list, other.ended = append(other.list, s.Copy()), append(other.ended, m.ended[k])
	}
	return &other
}

// State, Toxics, Held and Lost are those of P11.1.
func (m *model) State() int { return m.state }

func (m *model) Toxics() (all []api.Toxic) {
	for k := 1; k < len(m.list)-1; k++ {
		all = append(all, m.list[k].Toxic())
	}
	return all
}

func (m *model) Held() (n int) {
	for k := 0; k < len(m.list); k++ {
		n += m.list[k].Held()
	}
	return n
}

func (m *model) Lost() int { return m.lost }

// Insert, Remove and Update are those of P11.2.
func (m *model) Insert(at int, t api.Toxic, seed uint64, now int) api.Errno {
	if many := len(m.list) - 2; at < 0 || at > many || many >= 8 {
		return api.ErrChainPlace
	}
	s, e := stage.New(t, seed, m.room, now)
	if e != api.OK {
		return e
	}
	ended := m.ended[at+1]
	if ended {
		s.Close(now)
	}
	m.list = append(append(append([]*stage.Stage(nil), m.list[:at+1]...), s), m.list[at+1:]...)
	m.ended = append(append(append([]bool(nil), m.ended[:at+1]...), ended), m.ended[at+1:]...)
	return api.OK
}

func (m *model) Remove(at, now int) api.Errno {
	if at < 0 || at >= len(m.list)-2 {
		return api.ErrChainPlace
	}
	held, ended := m.list[at+1].Drain(), m.ended[at+1]
	m.list = append(append([]*stage.Stage(nil), m.list[:at+1]...), m.list[at+2:]...)
	m.ended = append(append([]bool(nil), m.ended[:at+1]...), m.ended[at+2:]...)
	behind := m.list[at+1]
	behind.Force(now, held)
	if len(held) > 0 && behind.State(now) != api.Open {
		m.lost += len(held)
		m.lose(at)
	}
	if ended {
		behind.Close(now)
		m.ended[at+1] = true
	}
	return api.OK
}

func (m *model) Update(at int, t api.Toxic, now int) api.Errno {
	if at < 0 || at >= len(m.list)-2 {
		return api.ErrChainPlace
	}
	return m.list[at+1].Update(t, now)
}

// Put, Close, Break and Take are those of P11.3.
func (m *model) Put(now int, b []byte) int {
	if m.shut || m.state != api.Open {
		return 0
	}
	return m.list[0].Put(now, b)
}

func (m *model) Close(now int) {
	if m.state == api.Open {
		m.shut, m.ended[0] = true, true
		m.list[0].Close(now)
	}
}

func (m *model) Break(now int) {
	if m.state != api.Closed {
		m.lose(len(m.list) - 1)
		m.state = api.Broken
	}
}

func (m *model) Take(now, most int) []byte {
	if m.state == api.Broken {
		return nil
	}
	return m.list[len(m.list)-1].Take(now, most)
}

// Step is that of P11.4.
func (m *model) Step(now int) int {
	if m.state != api.Open {
		return m.state
	}
	for k := 0; k < len(m.list); k++ {
		if m.list[k].State(now) == api.Broken {
			m.Break(now)
			return m.state
		}
	}
	last := len(m.list) - 1
	for k := 0; k < last; k++ {
		if m.list[k+1].State(now) == api.Open {
			b := m.list[k].Take(now, m.list[k+1].Free())
			m.list[k+1].Force(now, b)
		}
	}
	for k := 0; k < last; k++ {
		if m.list[k].State(now) == api.Closed {
			m.lose(k)
			m.list[k+1].Close(now)
			m.ended[k+1] = true
		}
	}
	if m.list[last].State(now) == api.Closed {
		m.state = api.Closed
	}
	return m.state
}

// lose loses what the stages up to that one hold, and shuts.
func (m *model) lose(last int) {
	for k := 0; k <= last; k++ {
		m.lost += len(m.list[k].Drain())
	}
	m.shut = true
}

// thing is one that may be done.
type thing struct {
	promise, what string
	do            func(c chainlike) string
	put           func(c chainlike, from int) int // instead: so many bytes that follow the one of that number
	take          func(c chainlike) []byte        // instead
}

// call is a thing that tells a number.
func call(promise, what string, do func(c chainlike) int) thing {
	return thing{promise: promise, what: what, do: func(c chainlike) string { return fmt.Sprint(do(c)) }}
}

// put, take, shut, breaks, step, insert, remove and update are to do that.
func put(now int, b string) thing {
	return call("P11.3", fmt.Sprintf("Put(%d, %.40q)", now, b), func(c chainlike) int { return c.Put(now, []byte(b)) })
}

func take(now, most int) thing {
	return thing{promise: "P11.3", what: fmt.Sprintf("Take(%d, %d)", now, most), take: func(c chainlike) []byte { return c.Take(now, most) }}
}

func shut(now int) thing {
	return thing{promise: "P11.3", what: fmt.Sprintf("Close(%d)", now), do: func(c chainlike) string { c.Close(now); return "" }}
}

func breaks(now int) thing {
	return thing{promise: "P11.3", what: fmt.Sprintf("Break(%d)", now), do: func(c chainlike) string { c.Break(now); return "" }}
}

func step(now int) thing {
	return call("P11.4", fmt.Sprintf("Step(%d)", now), func(c chainlike) int { return c.Step(now) })
}

func insert(at int, x api.Toxic, now int) thing {
	return call("P11.2", fmt.Sprintf("Insert(%d, %v, %d)", at, x, now), func(c chainlike) int { return int(c.Insert(at, x, 7, now)) })
}

func remove(at, now int) thing {
	return call("P11.2", fmt.Sprintf("Remove(%d, %d)", at, now), func(c chainlike) int { return int(c.Remove(at, now)) })
}

func update(at int, x api.Toxic, now int) thing {
	return call("P11.2", fmt.Sprintf("Update(%d, %v, %d)", at, x, now), func(c chainlike) int { return int(c.Update(at, x, now)) })
}

// state, held, lost and kinds are to ask that.
func state() thing { return call("P11.1", "State", func(c chainlike) int { return c.State() }) }
func held() thing  { return call("P11.1", "Held", func(c chainlike) int { return c.Held() }) }
func lost() thing  { return call("P11.1", "Lost", func(c chainlike) int { return c.Lost() }) }
func names() thing {
	return thing{promise: "P11.1", what: "Toxics", do: func(c chainlike) (s string) {
		for _, x := range c.Toxics() {
			s += fmt.Sprint(" ", x.Name, x.A)
		}
		return s
	}}
}

// flow is to put so many bytes that follow those which were put: see both.
func flow(now, n int) thing {
	return thing{promise: "P11.3", what: fmt.Sprintf("Put(%d, of %d bytes)", now, n), put: func(c chainlike, from int) int {
		b := make([]byte, n)
		for k := range b {
			b[k] = byte(from + k)
		}
		return c.Put(now, b)
	}}
}

// says is one thing, and what is told of it.
type says struct {
	do   thing
	want string
}

// row does these things to a new chain of that room with these toxics, all at 10, and complains if another thing is told than is written here.
func row(t *testing.T, promise string, room int, toxics []api.Toxic, l ...says) {
	t.Helper()
	c, e := New(room, 10)
	if e != api.OK || c == nil {
		t.Fatalf("P11.1: New(%d, 10) is %d", room, e)
	}
	for k, x := range toxics {
		if e := c.Insert(k, x, 0, 10); e != api.OK {
			t.Fatalf("P11.2: Insert(%d, %v) is %d", k, x, e)
		}
	}
	for k, y := range l {
		told := ""
		if y.do.take != nil {
			told = string(y.do.take(c))
		} else {
			told = y.do.do(c)
		}
		if told != y.want {
			t.Errorf("%s: the thing %d, %s, of %v tells %q, not %q", promise, k, y.do.what, toxics, told, y.want)
		}
	}
}

// What a Step, a State, or an Insert, a Remove and an Update tell.
const (
	open, closed, broken = "0", "1", "2"
	done                 = "0"
)

// of is a toxic of that kind, and toxics a list of them.
func of(kind, a, b int) api.Toxic {
	if kind == api.Pass {
		return api.Toxic{}
	}
	return api.Toxic{Name: "a", Kind: kind, Often: 100, A: a, B: b}
}

func toxics(l ...api.Toxic) []api.Toxic { return l }

// lag, rate, cut, hang, reset, limit and slow are toxics of these numbers.
func lag(a int) api.Toxic     { return of(api.Latency, a, 0) }
func rate(a, b int) api.Toxic { return of(api.Bandwidth, a, b) }
func cut(a, b int) api.Toxic  { return of(api.Slicer, a, b) }
func hang(a int) api.Toxic    { return of(api.Timeout, a, 0) }
func reset(a int) api.Toxic   { return of(api.Reset, a, 0) }
func limit(a int) api.Toxic   { return of(api.Limit, a, 0) }
func slow(a int) api.Toxic    { return of(api.Slow, a, 0) }

// named is the toxic by another name.
func named(s string, x api.Toxic) api.Toxic {
	x.Name = s
	return x
}

// edges are numbers at, and beyond, the ends of what a tick may be.
func edges() []int {
	return []int{math.MinInt, -top, -1, 0, 1, 1<<32 - 1, 1 << 32, top - 1, top, top + 1, 1 << 62, math.MaxInt}
}

func TestExample(t *testing.T) {
	c, _ := New(9, 0)
	n, e, first, b, second, lost := c.Put(0, []byte("abc")), c.Insert(0, limit(2), 0, 0), c.Step(0), string(c.Take(0, 9)), c.Step(0), c.Lost()
	if n != 3 || e != api.OK || first != api.Open || b != "ab" || second != api.Closed || lost != 1 {
		t.Errorf("P11.4: the chapter's example: %d, %d, %d, %q, %d, %d", n, e, first, b, second, lost)
	}
}

// P11.1

func TestNew(t *testing.T) {
	for _, room := range []int{1, 2, 4095, 4096} {
		for _, now := range edges() {
			c, e := New(room, now)
			if e != api.OK || c == nil {
				t.Fatalf("P11.1: New(%d, %d) is %d", room, now, e)
			}
			if c.State() != api.Open || len(c.Toxics()) != 0 || c.Held() != 0 || c.Lost() != 0 {
				t.Errorf("P11.1: New(%d, %d) is not so: %d, %v, %d, %d", room, now, c.State(), c.Toxics(), c.Held(), c.Lost())
			}
			if n := c.Put(now, make([]byte, 5000)); n != room || c.Held() != room {
				t.Errorf("P11.1: New(%d, %d) has room for %d, and is shut or not", room, now, n)
			}
		}
	}
	for _, room := range []int{math.MinInt, -1, 0, 4097, 1<<32 + 1, math.MaxInt} {
		if c, e := New(room, 5); e != api.ErrArg || c != nil {
			t.Errorf("P11.1: New(%d, 5) is %v, %d", room, c, e)
		}
	}
}

// TestStateIsThatOfTheLastStep: no other call than Step, and Break, changes it.
func TestStateIsThatOfTheLastStep(t *testing.T) {
	row(t, "P11.1", 9, toxics(reset(4)), says{put(10, "ab"), "2"}, says{put(14, "c"), "1"}, says{state(), open}, says{take(14, 9), ""}, says{shut(14), ""}, says{update(0, reset(9), 14), done}, says{state(), open}, says{step(14), broken}, says{state(), broken})
	row(t, "P11.1", 9, nil, says{put(10, "ab"), "2"}, says{shut(10), ""}, says{state(), open}, says{step(10), open}, says{state(), open}, says{take(10, 9), "ab"}, says{state(), open}, says{step(10), closed}, says{state(), closed})
	row(t, "P11.1", 9, toxics(limit(2)), says{put(10, "abc"), "3"}, says{step(10), open}, says{state(), open}, says{take(10, 9), "ab"}, says{state(), open}, says{remove(0, 10), done}, says{state(), open}, says{step(10), closed})
	row(t, "P11.1", 9, nil, says{breaks(10), ""}, says{state(), broken})
}

func TestToxics(t *testing.T) {
	a, b, c, d := named("a", lag(1)), named("b", slow(2)), named("c", hang(3)), named("d", limit(4))
	row(t, "P11.1", 9, nil, says{names(), ""},
		says{insert(0, a, 10), done}, says{insert(0, b, 10), done}, says{names(), " b2 a1"},
		says{insert(1, c, 10), done}, says{insert(3, d, 10), done}, says{names(), " b2 c3 a1 d4"},
		says{insert(4, api.Toxic{}, 10), done}, says{names(), " b2 c3 a1 d4 0"}, says{remove(4, 10), done},
		says{remove(1, 10), done}, says{names(), " b2 a1 d4"}, says{update(1, named("x", lag(9)), 10), done}, says{names(), " b2 x9 d4"},
		says{remove(0, 10), done}, says{remove(1, 10), done}, says{names(), " x9"}, says{breaks(10), ""}, says{names(), " x9"}, says{remove(0, 10), done}, says{names(), ""})
	x := api.Toxic{Name: "whole", Kind: api.Bandwidth, Up: true, Often: 3, A: 4, B: 5}
	own, _ := New(9, 0)
	own.Insert(0, x, 0, 0)
	l := own.Toxics()
	if len(l) != 1 || l[0] != x {
		t.Errorf("P11.1: of %v Toxics are %v", x, l)
	}
	l[0] = a
	_ = append(l, b)
	if l := own.Toxics(); !slices.Equal(l, toxics(x)) {
		t.Errorf("R6: behind a write into what was told Toxics are %v", l)
	}
}

func TestHeldAndLost(t *testing.T) {
	row(t, "P11.1", 4, toxics(rate(0, 1), lag(5), hang(9)), says{put(10, "abcdef"), "4"}, says{held(), "4"}, says{step(10), open}, says{held(), "4"},
		says{step(15), open}, says{put(15, "gh"), "2"}, says{held(), "6"}, says{lost(), "0"}, says{remove(2, 16), done}, says{held(), "6"}, says{take(16, 9), "a"}, says{held(), "5"}, says{lost(), "0"},
		says{breaks(17), ""}, says{held(), "0"}, says{lost(), "5"})
}

func TestCopyIsItsOwn(t *testing.T) {
	for _, l := range chains() {
		p := pair(t, 9, l)
		p.steps(t, flow(10, 6), step(10), flow(10, 3), shut(11), step(11))
		other := p.own()
		other.stands(t, "a copy")
		other.steps(t, flow(12, 2), step(12), take(12, 3), remove(0, 12), insert(0, lag(1), 12), update(0, lag(3), 12), step(14), breaks(14))
		p.stands(t, "its copy was changed")
		other = p.own()
		p.steps(t, step(13), take(13, 2), remove(0, 13), update(0, rate(1, 1), 13), step(14), take(15, 9), breaks(15))
		other.stands(t, "what it was copied from was changed")
		other.steps(t, flow(13, 1), step(13), take(13, 9), step(20), take(20, 9), step(30))
	}
}

// P11.2

func TestInsertRefuses(t *testing.T) {
	wrong := []struct {
		t    api.Toxic
		want api.Errno
	}{
		{api.Toxic{Kind: api.Latency}, api.ErrToxicForm}, {api.Toxic{Name: "A", Kind: api.Latency}, api.ErrToxicForm}, {api.Toxic{A: 1}, api.ErrToxicForm},
		{api.Toxic{Name: "a"}, api.ErrToxicKind}, {of(8, 1, 1), api.ErrToxicKind}, {of(-1, 0, 0), api.ErrToxicKind},
		{reset(0), api.ErrToxicPart}, {rate(1, 0), api.ErrToxicPart}, {rate(1, 4097), api.ErrToxicPart}, {lag(-1), api.ErrToxicPart}, {slow(top + 1), api.ErrToxicPart},
	}
	for many := range 9 {
		p := pair(t, 9, slices.Repeat(toxics(lag(1)), many))
		for _, at := range []int{math.MinInt, -many - 1, -2, -1, 0, 1, many - 1, many, many + 1, many + 2, 8, 9, math.MaxInt - 1, math.MaxInt} {
			may := at >= 0 && at <= many && many < 8
			for _, x := range wrong {
				want := x.want
				if !may {
					want = api.ErrChainPlace
				}
				if e := p.c.Insert(at, x.t, 0, 10); e != want {
					t.Errorf("P11.2: of %d Insert(%d, %v) is %d, not %d", many, at, x.t, e, want)
				}
			}
			for _, x := range toxics(api.Toxic{}, slow(3)) {
				own, want := p.own(), api.ErrChainPlace
				if may {
					want = api.OK
				}
				if e := own.c.Insert(at, x, 0, 10); e != want {
					t.Errorf("P11.2: of %d Insert(%d, %v) is %d, not %d", many, at, x, e, want)
				}
			}
			p.stands(t, "a refused Insert")
		}
	}
}

func TestInsert(t *testing.T) {
	// It is empty, behind what is there: what has come further does not come back.
	row(t, "P11.2", 9, nil, says{put(10, "ab"), "2"}, says{step(10), open}, says{put(10, "cd"), "2"}, says{insert(0, lag(5), 10), done}, says{held(), "4"}, says{take(10, 9), "ab"}, says{step(10), open}, says{take(14, 9), ""}, says{step(14), open}, says{take(14, 9), ""}, says{step(15), open}, says{take(15, 9), "cd"})
	// It begins at now.
	row(t, "P11.2", 9, nil, says{insert(0, reset(4), 12), done}, says{step(15), open}, says{step(16), broken})
	row(t, "P11.2", 9, nil, says{insert(0, hang(4), -3), done}, says{step(3), open}, says{step(4), closed})
	// Its room is the chain's.
	row(t, "P11.2", 3, nil, says{insert(0, lag(5), 10), done}, says{put(10, "abc"), "3"}, says{step(10), open}, says{put(10, "def"), "3"}, says{step(10), open}, says{put(10, "g"), "0"}, says{step(15), open}, says{put(15, "g"), "0"}, says{take(15, 9), "abc"}, says{step(15), open}, says{put(15, "gh"), "2"})
	// Where it stands.
	row(t, "P11.2", 9, toxics(limit(2)), says{insert(0, lag(5), 10), done}, says{put(10, "abc"), "3"}, says{step(10), open}, says{lost(), "0"}, says{step(15), open}, says{lost(), "1"})
	row(t, "P11.2", 9, toxics(limit(2)), says{insert(1, lag(5), 10), done}, says{put(10, "abc"), "3"}, says{step(10), open}, says{lost(), "1"}, says{take(10, 9), ""}, says{step(15), open}, says{take(15, 9), "ab"}, says{step(15), closed})
	// A chain that is ended takes them too.
	row(t, "P11.2", 9, nil, says{breaks(10), ""}, says{insert(0, lag(5), 10), done}, says{insert(2, lag(5), 10), "110"}, says{step(10), broken}, says{names(), " a5"})
}

// TestSeedOfInsert: the seed is the stage's.
func TestSeedOfInsert(t *testing.T) {
	for _, seed := range []uint64{0, 1, 42, 1 << 63, math.MaxUint64} {
		c, _ := New(99, 0)
		c.Insert(0, cut(90, 0), seed, 0)
		s, _ := stage.New(cut(90, 0), seed, 99, 0)
		b := []byte(strings.Repeat("x", 99))
		c.Put(0, b)
		s.Put(0, b)
		c.Step(0)
		if n, want := len(c.Take(0, 99)), len(s.Take(0, 99)); n != want {
			t.Errorf("P11.2: of the seed %d the first slice is of %d, not %d", seed, n, want)
		}
	}
}

// TestInsertAheadOfAnEnd: a new stage has a closed source, if the one behind it has. A reset of a closed source is closed, and breaks nothing.
func TestInsertAheadOfAnEnd(t *testing.T) {
	ended := []says{{put(10, "ab"), "2"}, {shut(10), ""}, {step(10), open}, {take(10, 9), "ab"}}
	row(t, "P11.2", 9, toxics(slow(9)), append(ended, says{insert(0, reset(3), 11), done}, says{step(12), open}, says{step(14), open}, says{step(18), open}, says{step(19), closed})...)
	row(t, "P11.2", 9, toxics(slow(9)), append(ended, says{insert(0, reset(3), 11), done}, says{insert(0, reset(3), 11), done}, says{step(12), open}, says{step(14), open}, says{step(19), closed})...)
	row(t, "P11.2", 9, toxics(slow(9)), append(ended, says{insert(1, reset(3), 11), done}, says{step(12), open}, says{step(14), broken})...)
	row(t, "P11.2", 9, toxics(slow(9)), append(ended, says{insert(1, slow(5), 11), done}, says{step(19), open}, says{step(23), open}, says{step(24), closed})...)
	row(t, "P11.2", 9, toxics(lag(9)), says{put(10, "ab"), "2"}, says{step(10), open}, says{shut(10), ""}, says{insert(0, lag(2), 10), done}, says{step(11), open}, says{step(19), open}, says{take(19, 9), "ab"}, says{step(19), closed}, says{lost(), "0"})
	// If the source of the stage behind is not closed, its own is not either, till its end comes.
	row(t, "P11.2", 9, toxics(lag(9)), says{shut(10), ""}, says{insert(0, slow(2), 10), done}, says{step(11), open}, says{step(13), closed})
}

func TestPlacesOfRemoveAndUpdate(t *testing.T) {
	for many := range 9 {
		p := pair(t, 9, slices.Repeat(toxics(lag(1)), many))
		for _, at := range []int{math.MinInt, -many, -2, -1, 0, 1, many - 1, many, many + 1, 8, 9, math.MaxInt - 1, math.MaxInt} {
			may, want := at >= 0 && at < many, api.ErrChainPlace
			if may {
				want = api.OK
			}
			own := p.own()
			if e := own.c.Remove(at, 10); e != want || may != (len(own.c.Toxics()) == many-1) {
				t.Errorf("P11.2: of %d Remove(%d) is %d, not %d", many, at, e, want)
			}
			if e := own.c.Update(at, slow(0), 10); !may && e != api.ErrChainPlace {
				t.Errorf("P11.2: of %d Update(%d) of another kind is %d, not %d", many, at, e, api.ErrChainPlace)
			}
			if e := p.own().c.Update(at, lag(2), 10); e != want {
				t.Errorf("P11.2: of %d Update(%d) is %d, not %d", many, at, e, want)
			}
			p.stands(t, "its copies were changed")
		}
	}
}

func TestRemoveHandsOn(t *testing.T) {
	two := []says{{put(10, "abc"), "3"}, {step(10), open}, {put(10, "de"), "2"}}
	row(t, "P11.2", 9, toxics(lag(5)), append(two, says{remove(0, 11), done}, says{held(), "5"}, says{take(11, 9), "abc"}, says{step(11), open}, says{take(11, 9), "de"}, says{lost(), "0"})...)
	// It is Forced: beyond the room, and with a delay of its own.
	row(t, "P11.2", 3, toxics(lag(5), lag(7)), append(two, says{step(10), open}, says{remove(0, 11), done}, says{step(17), open}, says{take(17, 9), ""}, says{step(18), open}, says{take(18, 9), "abc"}, says{step(18), open}, says{step(24), open}, says{take(24, 9), ""}, says{step(25), open}, says{take(25, 9), "de"})...)
	row(t, "P11.2", 3, toxics(lag(5), rate(0, 1)), says{put(10, "abc"), "3"}, says{step(10), open}, says{put(10, "def"), "3"}, says{step(15), open}, says{put(15, "ghi"), "0"}, says{step(15), open}, says{put(15, "ghi"), "3"}, says{step(15), open}, says{held(), "9"}, says{remove(0, 16), done}, says{step(16), open}, says{held(), "9"}, says{lost(), "0"}, says{remove(0, 16), done}, says{take(16, 9), "abcdef"})
	// Order: what the one behind holds comes first.
	row(t, "P11.2", 9, toxics(lag(5), lag(7)), says{put(10, "ab"), "2"}, says{step(10), open}, says{step(15), open}, says{put(15, "cd"), "2"}, says{step(15), open}, says{put(15, "ef"), "2"}, says{remove(0, 16), done}, says{remove(0, 16), done}, says{take(16, 9), "abcd"}, says{step(16), open}, says{take(16, 9), "ef"})
	// What the kind would have done does not matter any more.
	row(t, "P11.2", 9, toxics(reset(4)), says{remove(0, 14), done}, says{put(14, "ab"), "2"}, says{step(14), open}, says{take(14, 9), "ab"})
	row(t, "P11.2", 9, toxics(hang(4)), says{put(10, "ab"), "2"}, says{step(10), open}, says{remove(0, 14), done}, says{take(14, 9), "ab"}, says{step(14), open}, says{put(14, "c"), "1"})
	// A chain that is ended lets them go too.
	row(t, "P11.2", 9, toxics(lag(5)), append(two, says{breaks(10), ""}, says{remove(0, 11), done}, says{held(), "0"}, says{lost(), "5"}, says{state(), broken})...)
}

// TestRemoveTellsTheTick: the stage behind is told now, even if nothing is handed on.
func TestRemoveTellsTheTick(t *testing.T) {
	row(t, "P11.2", 9, toxics(slow(1), lag(5)), says{remove(0, 20), done}, says{put(12, "ab"), "2"}, says{step(12), open}, says{step(24), open}, says{take(24, 9), ""}, says{step(25), open}, says{take(25, 9), "ab"})
	row(t, "P11.2", 9, toxics(slow(1), reset(5)), says{remove(0, 15), done}, says{step(11), broken})
	// It looks first: it is closed, and stays that.
	row(t, "P11.2", 9, toxics(slow(1), hang(5)), says{put(10, "ab"), "2"}, says{remove(0, 15), done}, says{lost(), "0"}, says{put(15, "c"), "1"}, says{update(0, hang(50), 15), done}, says{step(15), closed}, says{lost(), "3"})
}

func TestRemoveLoses(t *testing.T) {
	held3 := []says{{put(10, "abc"), "3"}, {step(10), open}, {put(10, "de"), "2"}}
	for _, x := range toxics(hang(4), reset(4)) {
		end := closed
		if x.Kind == api.Reset {
			end = broken
		}
		row(t, "P11.2", 9, toxics(lag(5), x), append(held3, says{remove(0, 13), done}, says{held(), "5"}, says{lost(), "0"}, says{put(13, "f"), "1"})...)
		row(t, "P11.2", 9, toxics(lag(5), x), append(held3, says{remove(0, 14), done}, says{held(), "0"}, says{lost(), "5"}, says{state(), open}, says{put(14, "f"), "0"}, says{step(14), end}, says{lost(), "5"})...)
		// If it holds nothing, nothing is lost yet.
		row(t, "P11.2", 9, toxics(lag(5), x), says{put(10, "de"), "2"}, says{remove(0, 14), done}, says{held(), "2"}, says{lost(), "0"}, says{put(14, "f"), "1"}, says{step(14), end}, says{lost(), "3"})
	}
	// What the stages behind hold is not lost.
	three := []says{{put(10, "ab"), "2"}, {step(10), open}, {step(13), open}, {put(13, "cd"), "2"}, {step(13), open}, {put(13, "e"), "1"}, {update(1, limit(2), 13), done}}
	row(t, "P11.2", 9, toxics(lag(3), limit(9), lag(9)), append(three, says{remove(0, 13), done}, says{held(), "2"}, says{lost(), "3"}, says{put(13, "f"), "0"}, says{step(22), open}, says{take(22, 9), "ab"}, says{step(22), closed}, says{lost(), "3"})...)
	// All stages ahead lose, the inlet too.
	row(t, "P11.2", 9, toxics(lag(9), lag(3), limit(5)), says{put(10, "ab"), "2"}, says{step(10), open}, says{step(19), open}, says{put(19, "cde"), "3"}, says{step(19), open}, says{put(19, "f"), "1"}, says{held(), "6"}, says{update(2, limit(0), 19), done}, says{remove(1, 19), done}, says{lost(), "6"}, says{held(), "0"})
	// Without the loss of a byte the source is handed on all the same.
	row(t, "P11.2", 9, toxics(lag(5), hang(4), slow(6)), says{put(10, "abc"), "3"}, says{step(10), open}, says{shut(10), ""}, says{step(10), open}, says{remove(0, 14), done}, says{lost(), "3"}, says{step(14), open}, says{step(19), open}, says{step(20), closed})
}

// TestRemoveHandsTheEndOn: if its source was closed, that of the one behind is, at now.
func TestRemoveHandsTheEndOn(t *testing.T) {
	row(t, "P11.2", 9, toxics(lag(5), slow(3)), says{put(10, "ab"), "2"}, says{shut(10), ""}, says{step(10), open}, says{remove(0, 12), done}, says{step(12), open}, says{take(12, 9), "ab"}, says{step(14), open}, says{step(15), closed})
	row(t, "P11.2", 9, toxics(lag(5)), says{put(10, "ab"), "2"}, says{shut(10), ""}, says{step(10), open}, says{remove(0, 12), done}, says{step(12), open}, says{take(12, 9), "ab"}, says{step(12), closed})
	row(t, "P11.2", 9, toxics(slow(9), slow(3), slow(2)), says{shut(10), ""}, says{step(10), open}, says{remove(0, 11), done}, says{remove(0, 12), done}, says{step(13), open}, says{step(14), closed})
	// A source that is not closed is not handed on as one.
	row(t, "P11.2", 9, toxics(lag(5)), says{put(10, "ab"), "2"}, says{shut(10), ""}, says{remove(0, 12), done}, says{step(12), open}, says{take(12, 9), "ab"}, says{step(12), closed})
	row(t, "P11.2", 9, toxics(lag(5)), says{put(10, "ab"), "2"}, says{remove(0, 12), done}, says{step(12), open}, says{take(12, 9), "ab"}, says{step(12), open}, says{put(12, "c"), "1"}, says{step(12), open}, says{take(12, 9), "c"})
	// A stage that was put ahead of an end had a closed source from there on.
	row(t, "P11.2", 9, toxics(slow(9)), says{shut(10), ""}, says{step(10), open}, says{insert(0, slow(50), 10), done}, says{insert(1, reset(3), 10), done}, says{step(11), open}, says{remove(0, 12), done}, says{step(18), open}, says{step(19), closed})
}

func TestUpdate(t *testing.T) {
	row(t, "P11.2", 9, toxics(lag(5), limit(9)), says{update(0, lag(2), 10), done}, says{update(1, limit(3), 10), done}, says{names(), " a2 a3"}, says{put(10, "abcd"), "4"}, says{step(10), open}, says{step(12), open}, says{take(12, 9), "abc"}, says{step(12), closed})
	row(t, "P11.2", 9, toxics(lag(5), limit(9), api.Toxic{}), says{update(0, limit(2), 10), "91"}, says{update(0, api.Toxic{}, 10), "91"}, says{update(0, lag(-1), 10), "92"}, says{update(0, named("A", lag(1)), 10), "90"}, says{update(2, lag(1), 10), "91"}, says{update(2, api.Toxic{}, 10), done}, says{names(), " a5 a9 0"})
	row(t, "P11.2", 9, toxics(hang(4)), says{update(0, hang(9), 13), done}, says{step(14), open}, says{step(19), closed})
	row(t, "P11.2", 9, toxics(hang(4)), says{update(0, hang(9), 14), done}, says{step(14), closed})
	row(t, "P11.2", 9, toxics(lag(4)), says{breaks(10), ""}, says{update(0, lag(5), 10), done}, says{names(), " a5"})
}

// P11.3

func TestPut(t *testing.T) {
	row(t, "P11.3", 3, nil, says{put(10, ""), "0"}, says{put(10, "ab"), "2"}, says{put(10, "cd"), "1"}, says{put(10, "d"), "0"}, says{step(10), open}, says{put(10, "def"), "3"}, says{step(10), open}, says{put(10, "g"), "0"}, says{take(10, 1), "a"}, says{step(10), open}, says{put(10, "gh"), "1"}, says{take(10, 9), "bcd"})
	row(t, "P11.3", 9, nil, says{put(10, "a"), "1"}, says{shut(10), ""}, says{put(10, "b"), "0"}, says{step(10), open}, says{put(10, "b"), "0"}, says{take(10, 9), "a"}, says{step(10), closed}, says{put(10, "b"), "0"}, says{held(), "0"})
	row(t, "P11.3", 9, nil, says{breaks(10), ""}, says{put(10, "b"), "0"}, says{held(), "0"})
	row(t, "P11.3", 9, toxics(limit(2)), says{put(10, "abc"), "3"}, says{step(10), open}, says{put(10, "d"), "0"}, says{held(), "2"})
	long := strings.Repeat("ab", 3000)
	row(t, "P11.3", 4096, nil, says{put(10, long), "4096"}, says{step(10), open}, says{put(math.MaxInt, long), "4096"}, says{held(), "8192"}, says{take(10, 9999), long[:4096]})
}

func TestClose(t *testing.T) {
	row(t, "P11.3", 9, nil, says{shut(10), ""}, says{shut(11), ""}, says{state(), open}, says{step(11), closed}, says{shut(11), ""}, says{state(), closed})
	row(t, "P11.3", 9, nil, says{breaks(10), ""}, says{shut(10), ""}, says{step(10), broken}, says{lost(), "0"})
	row(t, "P11.3", 3, nil, says{put(10, "abc"), "3"}, says{step(10), open}, says{put(10, "def"), "3"}, says{shut(10), ""}, says{step(10), open}, says{take(10, 2), "ab"}, says{step(10), open}, says{take(10, 9), "cde"}, says{step(10), open}, says{take(10, 9), "f"}, says{step(10), closed}, says{lost(), "0"})
	// The inlet of a chain that was shut by a loss is closed by Close: slow counts from the Step behind that.
	row(t, "P11.3", 9, toxics(lag(9), slow(9), hang(2)), says{put(10, "a"), "1"}, says{remove(2, 12), done}, says{shut(12), ""}, says{step(12), open}, says{step(21), open}, says{take(21, 9), "a"}, says{step(29), open}, says{step(30), closed})
}

func TestBreak(t *testing.T) {
	row(t, "P11.3", 3, toxics(lag(5)), says{put(10, "abc"), "3"}, says{step(10), open}, says{put(10, "def"), "3"}, says{step(15), open}, says{step(15), open}, says{put(15, "ghi"), "3"}, says{held(), "9"}, says{breaks(15), ""},
		says{state(), broken}, says{held(), "0"}, says{lost(), "9"}, says{take(99, 9), ""}, says{put(99, "j"), "0"}, says{step(99), broken}, says{breaks(99), ""}, says{lost(), "9"})
	row(t, "P11.3", 9, nil, says{put(10, "ab"), "2"}, says{shut(10), ""}, says{step(10), open}, says{breaks(10), ""}, says{state(), broken}, says{lost(), "2"}, says{take(10, 9), ""})
	row(t, "P11.3", 9, nil, says{shut(10), ""}, says{step(10), closed}, says{breaks(10), ""}, says{state(), closed}, says{lost(), "0"}, says{step(10), closed})
	for _, now := range edges() {
		row(t, "P11.3", 9, toxics(lag(1)), says{put(10, "ab"), "2"}, says{breaks(now), ""}, says{state(), broken}, says{lost(), "2"})
	}
}

func TestTake(t *testing.T) {
	row(t, "P11.3", 9, nil, says{take(10, 9), ""}, says{put(10, "abcdef"), "6"}, says{take(10, 9), ""}, says{step(10), open}, says{take(10, 0), ""}, says{take(10, -1), ""}, says{take(10, math.MinInt), ""}, says{take(10, 1), "a"}, says{take(99, 2), "bc"}, says{take(3, math.MaxInt), "def"}, says{take(10, 9), ""})
	row(t, "P11.3", 9, nil, says{put(10, "ab"), "2"}, says{step(10), open}, says{shut(10), ""}, says{take(10, 1), "a"}, says{step(10), open}, says{take(10, 9), "b"}, says{step(10), closed}, says{take(10, 9), ""})
}

// P11.4

func TestStepOfAnEndedOne(t *testing.T) {
	row(t, "P11.4", 9, toxics(lag(5), reset(9)), says{shut(10), ""}, says{step(10), closed}, says{step(19), closed}, says{step(99), closed}, says{lost(), "0"})
	row(t, "P11.4", 9, nil, says{breaks(10), ""}, says{step(10), broken}, says{step(99), broken})
}

func TestStepBreaks(t *testing.T) {
	for k := range 3 {
		l := slices.Insert(toxics(lag(2), lag(3)), k, reset(4))
		row(t, "P11.4", 9, l, says{put(10, "abc"), "3"}, says{step(10), open}, says{put(12, "def"), "3"}, says{step(13), open}, says{state(), open}, says{step(14), broken}, says{held(), "0"}, says{lost(), "6"}, says{take(14, 9), ""}, says{put(14, "g"), "0"})
	}
	// All is lost, ahead of any move: even what could have come out.
	row(t, "P11.4", 9, toxics(reset(4)), says{put(10, "abc"), "3"}, says{step(10), open}, says{put(14, "de"), "2"}, says{step(14), broken}, says{take(14, 9), ""}, says{lost(), "5"})
	// A limit that would be closed at the same tick does not matter.
	row(t, "P11.4", 9, toxics(limit(2), reset(4)), says{put(14, "abc"), "3"}, says{step(14), broken}, says{lost(), "3"})
	// What is looked at ahead of the reset's tick, and closed, does not break.
	row(t, "P11.4", 9, toxics(lag(9), reset(4), slow(20)), says{shut(10), ""}, says{step(10), open}, says{step(14), open}, says{step(30), closed})
	row(t, "P11.4", 9, toxics(reset(top)), says{step(top - 1), open}, says{step(math.MaxInt), broken})
}

func TestStepMoves(t *testing.T) {
	// In one Step a byte may go through all stages.
	row(t, "P11.4", 9, slices.Repeat(toxics(api.Toxic{}, lag(0)), 4), says{put(10, "abc"), "3"}, says{step(10), open}, says{take(10, 9), "abc"})
	// As many as the stage behind is free for: each stage fills from the outlet on.
	row(t, "P11.4", 2, toxics(api.Toxic{}), says{put(10, "abc"), "2"}, says{step(10), open}, says{put(10, "cde"), "2"}, says{step(10), open}, says{put(10, "efg"), "2"}, says{step(10), open}, says{put(10, "g"), "0"}, says{held(), "6"},
		says{take(10, 1), "a"}, says{step(10), open}, says{put(10, "g"), "0"}, says{step(10), open}, says{put(10, "g"), "1"}, says{take(10, 9), "bc"}, says{step(10), open}, says{take(10, 9), "de"}, says{held(), "2"})
	// A stage that has more than its room is free for none.
	row(t, "P11.4", 2, toxics(lag(3), rate(0, 1)), says{put(10, "ab"), "2"}, says{step(10), open}, says{put(10, "cd"), "2"}, says{step(13), open}, says{step(13), open}, says{put(13, "ef"), "2"}, says{step(13), open}, says{remove(0, 13), done}, says{step(13), open}, says{held(), "6"}, says{take(13, 9), "a"}, says{step(13), open}, says{held(), "5"})
	// A slicer that is asked for none takes no pause, and no dice.
	row(t, "P11.4", 1, toxics(cut(1, 3)), says{put(10, "a"), "1"}, says{step(10), open}, says{put(10, "b"), "1"}, says{step(13), open}, says{put(13, "c"), "1"}, says{step(20), open}, says{take(20, 9), "a"}, says{step(20), open}, says{take(20, 9), "b"}, says{step(22), open}, says{take(22, 9), ""}, says{step(23), open}, says{take(23, 9), "c"})
	// A stage that is not Open has nothing from the one ahead.
	row(t, "P11.4", 9, toxics(lag(2), hang(3)), says{put(10, "ab"), "2"}, says{step(10), open}, says{put(10, "c"), "1"}, says{step(12), open}, says{step(13), closed}, says{lost(), "3"})
	row(t, "P11.4", 9, toxics(limit(5), limit(9)), says{put(10, "ab"), "2"}, says{step(10), open}, says{update(1, limit(0), 10), done}, says{put(10, "cde"), "3"}, says{step(10), open}, says{held(), "2"}, says{take(10, 9), "ab"}, says{step(10), closed}, says{lost(), "3"})
}

func TestStepEnds(t *testing.T) {
	// What it, and those ahead of it, hold is lost; what is behind goes on.
	row(t, "P11.4", 9, toxics(lag(2), limit(3), lag(4)), says{put(10, "abcd"), "4"}, says{step(10), open}, says{step(12), open}, says{put(12, "e"), "0"}, says{lost(), "1"}, says{held(), "3"}, says{step(15), open}, says{step(16), open}, says{take(16, 2), "ab"}, says{step(16), open}, says{take(16, 2), "c"}, says{step(16), closed}, says{lost(), "1"})
	row(t, "P11.4", 9, toxics(lag(2), limit(3), lag(4)), says{put(10, "abc"), "3"}, says{step(10), open}, says{put(10, "de"), "2"}, says{step(11), open}, says{put(11, "f"), "1"}, says{step(12), open}, says{lost(), "3"}, says{held(), "3"}, says{put(12, "g"), "0"})
	row(t, "P11.4", 9, toxics(api.Toxic{}, hang(3)), says{put(10, "ab"), "2"}, says{step(12), open}, says{put(12, "c"), "1"}, says{step(13), closed}, says{lost(), "3"}, says{held(), "0"})
	// An end goes through all stages in one Step, if nothing holds it up.
	row(t, "P11.4", 9, slices.Repeat(toxics(lag(3), slow(0)), 4), says{shut(10), ""}, says{step(10), closed})
	row(t, "P11.4", 9, toxics(slow(1), slow(2), slow(3)), says{shut(10), ""}, says{step(10), open}, says{step(11), open}, says{step(13), open}, says{step(15), open}, says{step(16), closed})
	row(t, "P11.4", 9, toxics(slow(1), slow(2)), says{shut(10), ""}, says{step(99), open}, says{step(100), open}, says{step(102), closed})
	row(t, "P11.4", 9, toxics(lag(3)), says{put(10, "ab"), "2"}, says{shut(10), ""}, says{step(10), open}, says{step(12), open}, says{step(13), open}, says{step(14), open}, says{take(14, 9), "ab"}, says{state(), open}, says{step(14), closed})
	// A timeout does not end with its source.
	row(t, "P11.4", 9, toxics(hang(5)), says{shut(10), ""}, says{step(10), open}, says{step(14), open}, says{step(15), closed})
	row(t, "P11.4", 9, toxics(limit(0)), says{put(10, "ab"), "2"}, says{step(10), closed}, says{lost(), "2"})
	// A stage whose end was told once may be told it again.
	row(t, "P11.4", 9, toxics(limit(1), slow(4)), says{put(10, "ab"), "2"}, says{step(10), open}, says{step(12), open}, says{take(12, 9), "a"}, says{step(13), open}, says{step(14), closed}, says{lost(), "1"})
}

// TestTicksAtTheEnds: ticks are taken as layer 1 does, and none goes back.
func TestTicksAtTheEnds(t *testing.T) {
	row(t, "P11.4", 9, toxics(lag(5)), says{put(10, "ab"), "2"}, says{step(20), open}, says{step(11), open}, says{take(11, 9), ""}, says{step(25), open}, says{take(0, 9), "ab"})
	row(t, "P11.4", 9, toxics(lag(5)), says{put(10, "ab"), "2"}, says{step(top - 3), open}, says{step(top - 1), open}, says{take(math.MaxInt, 9), ""}, says{step(top), open}, says{take(0, 9), "ab"})
	row(t, "P11.4", 9, toxics(lag(5)), says{put(10, "ab"), "2"}, says{step(math.MaxInt), open}, says{step(math.MinInt), open}, says{take(0, 9), "ab"})
	for _, now := range edges() {
		p := pair(t, 9, toxics(lag(2), cut(2, 1), slow(1)))
		p.steps(t, flow(now, 5), step(now), insert(1, hang(2), now), remove(1, now), update(0, lag(1), now), step(now), take(now, 9), shut(now), step(now), step(20), step(21), take(21, 1), step(22), take(22, 9), step(23), step(24), take(24, 9), step(25), step(26))
	}
}

// both is a chain, and beside it what it is by the words, and what was put and taken: the bytes 0, 1, 2 and so on.
type both struct {
	c       *Chain
	m       *model
	in, out int
}

// pair is a new chain of that room with these toxics, all at 10, and what it is by the words.
func pair(t *testing.T, room int, toxics []api.Toxic) *both {
	t.Helper()
	c, e := New(room, 10)
	if e != api.OK || c == nil {
		t.Fatalf("P11.1: New(%d, 10) is %d", room, e)
	}
	p := &both{c: c, m: begun(room, 10)}
	for k, x := range toxics {
		p.step(t, insert(k, x, 10))
	}
	p.stands(t, "new")
	return p
}

// own is a pair of its own, just so.
func (p *both) own() *both { return &both{p.c.Copy(), p.m.own(), p.in, p.out} }

// stands complains if what the chain tells without a tick is not what it is by the words, or if a byte is too many, or too few.
func (p *both) stands(t *testing.T, what string) {
	t.Helper()
	if n := p.c.State(); n != p.m.State() {
		t.Fatalf("P11.1: %s: of %v State is %d, not %d", what, p.m.Toxics(), n, p.m.State())
	}
	if l := p.c.Toxics(); !slices.Equal(l, p.m.Toxics()) {
		t.Fatalf("P11.1: %s: Toxics are %v, not %v", what, l, p.m.Toxics())
	}
	if n := p.c.Held(); n != p.m.Held() {
		t.Fatalf("P11.1: %s: of %v Held is %d, not %d", what, p.m.Toxics(), n, p.m.Held())
	}
	if n := p.c.Lost(); n != p.m.Lost() {
		t.Fatalf("P11.1: %s: of %v Lost is %d, not %d", what, p.m.Toxics(), n, p.m.Lost())
	}
	if p.in != p.out+p.c.Held()+p.c.Lost() {
		t.Fatalf("P11.5: %s: of %v, %d bytes are taken, %d held, and %d lost, of %d", what, p.m.Toxics(), p.out, p.c.Held(), p.c.Lost(), p.in)
	}
}

// step does one thing to both, and complains if they tell different ones, or if what is taken is not what was put, in order.
func (p *both) step(t *testing.T, x thing) {
	t.Helper()
	told, want, was := "", "", p.m.Toxics()
	switch {
	case x.put != nil:
		n := x.put(p.c, p.in)
		told, want = fmt.Sprint(n), fmt.Sprint(x.put(p.m, p.in))
		p.in += n
	case x.take != nil:
		b := x.take(p.c)
		told, want = string(b), string(x.take(p.m))
		for k := range b {
			if b[k] != byte(p.out+k) {
				t.Fatalf("P11.5: of %v %s tells %v behind %d bytes", was, x.what, b, p.out)
			}
		}
		p.out += len(b)
	case x.do == nil: // a copy
		p.c = p.c.Copy()
	default:
		told, want = x.do(p.c), x.do(p.m)
	}
	if told != want {
		t.Fatalf("%s: of %v %s tells %.100q, not %.100q", x.promise, was, x.what, told, want)
	}
	p.stands(t, x.what)
}

// steps does these, one after the other.
func (p *both) steps(t *testing.T, l ...thing) {
	t.Helper()
	for _, x := range l {
		p.step(t, x)
	}
}

// chains are toxics of chains.
func chains() [][]api.Toxic {
	return [][]api.Toxic{
		nil,
		toxics(lag(2)), toxics(of(api.Latency, 2, 2)), toxics(rate(1, 2)), toxics(cut(2, 1)), toxics(hang(3)), toxics(reset(3)), toxics(limit(4)), toxics(slow(2)),
		toxics(lag(2), limit(3)), toxics(limit(3), lag(2)), toxics(lag(1), hang(3)), toxics(hang(2), slow(2)), toxics(lag(1), reset(3)), toxics(slow(1), slow(2)), toxics(cut(1, 1), rate(2, 3)),
		toxics(lag(1), api.Toxic{}, limit(4), slow(1)), toxics(slow(2), reset(3), lag(1)),
	}
}

// calls are things that may be done to a chain that began at 10.
func calls() []thing {
	return []thing{
		flow(10, 3), flow(12, 7), step(9), step(11), step(13), take(11, 2), take(13, 9), shut(11), breaks(11),
		insert(0, lag(1), 10), insert(1, limit(4), 11), insert(0, reset(2), 11), insert(2, slow(2), 12), insert(1, hang(1), 12),
		remove(0, 10), remove(0, 13), remove(1, 12), update(0, lag(3), 11), update(1, limit(1), 12), update(0, slow(9), 13),
	}
}

// goOn does all things in each order, so many steps on. Each one is done to a copy, which must leave what it was copied from.
func (p *both) goOn(t *testing.T, l []thing, steps int) {
	t.Helper()
	if steps == 0 {
		p.steps(t, step(13), take(13, 2), step(14), shut(14), take(14, 9), step(15), step(16), take(17, 9), step(19), take(19, 9), step(30), step(50))
		return
	}
	for _, x := range l {
		next := p.own()
		next.step(t, x)
		next.goOn(t, l, steps-1)
	}
	p.stands(t, "its copies went on")
}

func TestEachRunOfThree(t *testing.T) {
	for _, l := range chains() {
		p := pair(t, 4, l)
		p.steps(t, flow(10, 4), step(10), flow(10, 2))
		p.goOn(t, calls(), 3)
		pair(t, 4, l).goOn(t, calls(), 2)
	}
}

// some is a toxic by chance; none of those that end if it is told so.
func some(chance *rand.Rand, ends bool) api.Toxic {
	a, b := chance.Intn(9), chance.Intn(5)
	if chance.Intn(20) == 0 && ends {
		a = chance.Intn(1 << 40)
	}
	l := toxics(api.Toxic{}, lag(a), of(api.Latency, a+b, b), rate(1+a, 1+b), cut(min(1+a, 4096), b), slow(a))
	if ends {
		l = append(l, hang(4*a+1), reset(6*a+1), limit(5*a), rate(0, 1+b))
	}
	return l[chance.Intn(len(l))]
}

// aTick is a tick by chance: mostly a little later than the clock, at times an edge.
func aTick(chance *rand.Rand, clock int, ends bool) int {
	switch chance.Intn(60) {
	case 0:
		if ends && chance.Intn(5) == 0 {
			return edges()[chance.Intn(12)]
		}
		return edges()[chance.Intn(5)]
	case 1:
		return clock - chance.Intn(5)
	}
	return clock + chance.Intn(3)*chance.Intn(2)
}

// aThing is one by chance for a chain at that clock.
func aThing(chance *rand.Rand, toxics []api.Toxic, now int, ends bool) thing {
	at := chance.Intn(len(toxics)+3) - 1
	switch chance.Intn(50) {
	case 0, 1:
		return insert(at, some(chance, ends), now)
	case 2, 3:
		return remove(at, now)
	case 4:
		return update(at, some(chance, ends), now)
	case 5, 6:
		if at >= 0 && at < len(toxics) { // of the same kind
			x := toxics[at]
			for range 30 {
				if y := some(chance, ends); y.Kind == x.Kind {
					return update(at, y, now)
				}
			}
		}
	case 7:
		return thing{what: "Copy"}
	case 8:
		return insert(at, lag(-1), now)
	case 9:
		if ends && chance.Intn(4) == 0 {
			return breaks(now)
		}
	case 10:
		if chance.Intn(3) == 0 {
			return shut(now)
		}
	}
	switch chance.Intn(4) {
	case 0:
		return take(now, chance.Intn(12)-1)
	case 1:
		return flow(now, chance.Intn(12))
	}
	return step(now)
}

// run does things by chance to a new pair, and tells it, and its clock.
func run(t *testing.T, chance *rand.Rand, ends bool) (*both, int) {
	t.Helper()
	var l []api.Toxic
	for range chance.Intn(9) {
		l = append(l, some(chance, ends))
	}
	p, clock := pair(t, 1+chance.Intn(20), l), 10
	for range 150 {
		now := aTick(chance, clock, ends)
		if now < 1<<20 {
			clock = max(clock, now)
		}
		p.step(t, aThing(chance, p.m.Toxics(), now, ends))
	}
	return p, clock
}

func TestRunsByChance(t *testing.T) {
	chance := rand.New(rand.NewSource(11))
	for range 4000 {
		run(t, chance, true)
	}
}

// P11.5

// TestNothingIsLost: without Timeout, Reset, Limit and Break nothing is lost; and all comes in the end, if no rate is 0.
func TestNothingIsLost(t *testing.T) {
	chance := rand.New(rand.NewSource(115))
	for range 1000 {
		p, now := run(t, chance, false)
		if p.c.Lost() != 0 {
			t.Fatalf("P11.5: of %v %d are lost", p.c.Toxics(), p.c.Lost())
		}
		p.step(t, shut(now))
		for end := now + 5000; now < end && p.c.State() == api.Open; now++ {
			p.steps(t, step(now), take(now, 7))
		}
		if p.c.State() != api.Closed || p.out != p.in {
			t.Fatalf("P11.5: of %v %d of %d bytes came, and it is %d", p.c.Toxics(), p.out, p.in, p.c.State())
		}
	}
}

// R5, R6, R7

func TestBytesAreTheirOwn(t *testing.T) {
	c, _ := New(9, 0)
	in := []byte("abcdef")
	c.Put(0, in)
	if string(in) != "abcdef" {
		t.Errorf("R5: what is put becomes %q", in)
	}
	copy(in, "xxxxxx")
	c.Step(0)
	first, other := c.Take(0, 3), c.Copy()
	got := string(first)
	copy(first, "yyy")
	_ = append(first, "zzzzzz"...)
	if b := c.Take(0, 9); got != "abc" || string(b) != "def" {
		t.Errorf("R6: %q was taken, and then %q", got, b)
	}
	if b := other.Take(0, 9); string(b) != "def" {
		t.Errorf("R6: %q is taken from the copy", b)
	}
}

func TestTheSameCallsTellTheSame(t *testing.T) {
	chance := rand.New(rand.NewSource(7))
	for range 50 {
		x, y := some(chance, true), some(chance, true)
		a, b := pair(t, 9, toxics(x, y)).c, pair(t, 9, toxics(x, y)).c
		for k := range 60 {
			if a.Put(k, []byte("abcde")) != b.Put(k, []byte("abcde")) || a.Step(k) != b.Step(k) || string(a.Take(k, 4)) != string(b.Take(k, 4)) || a.Lost() != b.Lost() {
				t.Fatalf("R7: of %v and %v the same calls tell different ones", x, y)
			}
		}
	}
}
