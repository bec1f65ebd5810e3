package stage

import (
	"fmt"
	"math"
	"math/rand"
	"strings"
	"testing"

	"chicane/api"
	"chicane/bucket"
	"chicane/dice"
)

const top = api.MaxTick

// cell is one byte, and the tick from which on it is ready.
type cell struct {
	at int
	b  byte
}

// model is a stage by the words of the chapter: bytes one by one.
type model struct {
	t             api.Toxic
	dice          uint64
	room, passed  int
	began, clock  int
	seen          int
	shut          bool
	shutAt, pause int
	row           []cell
	last          int
	level, filled int
}

// asTick is the right number that is nearest to n.
func asTick(n int) int { return min(max(n, 0), top) }

// sum is tick.Add by its words.
func sum(a, b int) int { return asTick(asTick(a) + asTick(b)) }

// begun is the model of a new stage.
func begun(t api.Toxic, seed uint64, room, now int) model {
	now = asTick(now)
	return model{t: t, dice: seed, room: room, began: now, clock: now, level: t.B, filled: now}
}

// own is a model that shares nothing with m.
func (m model) own() model {
	m.row = append([]cell(nil), m.row...)
	return m
}

// state is State by the words of P10.2.
func (m *model) state(now int) int {
	m.clock = max(m.clock, asTick(now))
	if m.seen != api.Open {
		return m.seen
	}
	done := m.shut && len(m.row) == 0
	switch m.t.Kind {
	case api.Reset:
		if m.clock >= sum(m.began, m.t.A) {
			m.seen = api.Broken
			return m.seen
		}
	case api.Timeout:
		done = m.clock >= sum(m.began, m.t.A)
	case api.Limit:
		done = done || m.passed >= m.t.A
	case api.Slow:
		done = done && m.clock >= sum(m.shutAt, m.t.A)
	}
	if done {
		m.seen = api.Closed
	}
	return m.seen
}

// free is Free by the words of P10.1.
func (m *model) free() int { return max(0, m.room-len(m.row)) }

// lay is how bytes come in, by the words of P10.3.
func (m *model) lay(b string) {
	at := m.clock
	if m.t.Kind == api.Latency && len(b) > 0 {
		later := m.t.A - m.t.B
		if m.t.A+m.t.B <= top { // beyond that dice.Range tells the low one
			var more int
			more, m.dice = dice.Below(m.dice, 2*m.t.B+1)
			later += more
		}
		at = sum(at, later)
	}
	for _, x := range []byte(b) {
		m.last = max(m.last, at)
		m.row = append(m.row, cell{m.last, x})
	}
}

// put and force are Put and Force by the words of P10.3.
func (m *model) put(now int, b string) int {
	if m.state(now) != api.Open || m.shut {
		return 0
	}
	n := min(len(b), m.free())
	m.lay(b[:n])
	return n
}

func (m *model) force(now int, b string) {
	if m.state(now) == api.Open {
		m.lay(b)
	}
}

// fill is what the bucket has at the clock. The rate and the ticks are cut to the burst, that nothing wraps round.
func (m *model) fill() {
	more := min(m.t.A, m.t.B) * min(m.clock-m.filled, m.t.B)
	m.level, m.filled = min(m.level+more, m.t.B), m.clock
}

// take is Take by the words of P10.4.
func (m *model) take(now, most int) string {
	n := 0
	for n < len(m.row) && n < most && m.row[n].at <= max(m.clock, asTick(now)) {
		n++
	}
	if m.state(now) != api.Open || most < 1 {
		return ""
	}
	switch m.t.Kind {
	case api.Timeout:
		n = 0
	case api.Bandwidth:
		m.fill()
		n = min(n, m.level)
		m.level -= n
	case api.Slicer:
		if m.clock < m.pause {
			n = 0
		}
		if n > 0 {
			var more int
			more, m.dice = dice.Below(m.dice, m.t.A)
			n, m.pause = min(n, more+1), sum(m.clock, m.t.B)
		}
	case api.Limit:
		n = min(n, m.t.A-m.passed)
	}
	told := text(m.row[:n])
	m.row, m.passed = m.row[n:], m.passed+n
	return told
}

// close is Close by the words of P10.3.
func (m *model) close(now int) {
	m.clock = max(m.clock, asTick(now))
	if !m.shut {
		m.shut, m.shutAt = true, m.clock
	}
}

// update is Update by the words of P10.5; that t may be is told by who calls.
func (m *model) update(t api.Toxic, may api.Errno, now int) api.Errno {
	if t.Kind != m.t.Kind {
		return api.ErrToxicKind
	}
	if t.Kind == api.Pass || may != api.OK {
		return may
	}
	m.state(now)
	m.fill()
	m.t = t
	m.level = min(m.level, t.B)
	return api.OK
}

// drain is Drain by the words of P10.5.
func (m *model) drain() string {
	told := text(m.row)
	m.row = nil
	return told
}

// text is the bytes of the cells.
func text(row []cell) string {
	var b []byte
	for _, x := range row {
		b = append(b, x.b)
	}
	return string(b)
}

// both is a stage, and beside it what it is by the words.
type both struct {
	s *Stage
	m model
}

// pair is a new stage, and what it is by the words.
func pair(t *testing.T, x api.Toxic, seed uint64, room, now int) *both {
	t.Helper()
	s, e := New(x, seed, room, now)
	if e != api.OK || s == nil {
		t.Fatalf("P10.1: New(%+v, %d, %d, %d) is %d", x, seed, room, now, e)
	}
	p := &both{s, begun(x, seed, room, now)}
	p.stands(t, "new")
	return p
}

// stands complains if what the stage tells without a tick is not what it is by the words.
func (p *both) stands(t *testing.T, what string) {
	t.Helper()
	if x := p.s.Toxic(); x != p.m.t {
		t.Fatalf("P10.1: %s: Toxic is %+v, not %+v", what, x, p.m.t)
	}
	if n := p.s.Held(); n != len(p.m.row) {
		t.Fatalf("P10.1: %s: of %+v Held is %d, not %d", what, p.m.t, n, len(p.m.row))
	}
	if n := p.s.Free(); n != p.m.free() {
		t.Fatalf("P10.1: %s: of %+v Free is %d, not %d", what, p.m.t, n, p.m.free())
	}
	if n := p.s.Passed(); n != p.m.passed {
		t.Fatalf("P10.1: %s: of %+v Passed is %d, not %d", what, p.m.t, n, p.m.passed)
	}
}

// thing is one that may be done: at a tick, with so many bytes at most, with these, or with this toxic.
type thing struct {
	kind     string
	at, most int
	b        string
	t        api.Toxic
	may      api.Errno
}

// put, force, take, state, shut, drain and update are to do that.
func put(at int, b string) thing   { return thing{kind: "put", at: at, b: b} }
func force(at int, b string) thing { return thing{kind: "force", at: at, b: b} }
func take(at, most int) thing      { return thing{kind: "take", at: at, most: most} }
func state(at int) thing           { return thing{kind: "state", at: at} }
func shut(at int) thing            { return thing{kind: "shut", at: at} }
func drain() thing                 { return thing{kind: "drain"} }
func update(at int, t api.Toxic, may api.Errno) thing {
	return thing{kind: "update", at: at, t: t, may: may}
}
func numbers(at int, t api.Toxic, a, b int) (one thing) {
	t.A, t.B = a, b
	return update(at, t, api.OK)
}

// step does one thing to both, and complains if they tell different ones.
func (p *both) step(t *testing.T, x thing) {
	t.Helper()
	promise, told, want := "P10.3", "", ""
	switch x.kind {
	case "put":
		told, want = fmt.Sprint(p.s.Put(x.at, []byte(x.b))), fmt.Sprint(p.m.put(x.at, x.b))
	case "force":
		p.s.Force(x.at, []byte(x.b))
		p.m.force(x.at, x.b)
	case "shut":
		p.s.Close(x.at)
		p.m.close(x.at)
	case "take":
		promise, told, want = "P10.4", string(p.s.Take(x.at, x.most)), p.m.take(x.at, x.most)
	case "state":
		promise, told, want = "P10.2", fmt.Sprint(p.s.State(x.at)), fmt.Sprint(p.m.state(x.at))
	case "drain":
		promise, told, want = "P10.5", string(p.s.Drain()), p.m.drain()
	case "update":
		promise, told, want = "P10.5", fmt.Sprint(p.s.Update(x.t, x.at)), fmt.Sprint(p.m.update(x.t, x.may, x.at))
	case "copy":
		p.s = p.s.Copy()
	}
	if told != want {
		t.Fatalf("%s: %.150v tells %.100q, not %.100q, of %+v", promise, x, told, want, p.m.t)
	}
	p.stands(t, fmt.Sprintf("%.150v", x))
}

// steps does these, one after the other.
func (p *both) steps(t *testing.T, l ...thing) {
	t.Helper()
	for _, x := range l {
		p.step(t, x)
	}
}

// says is one thing, and what is told of it.
type says struct {
	do   thing
	want string
}

// row does these things to a new stage, which began at 10, and complains if another thing is told than is written here.
func row(t *testing.T, promise string, x api.Toxic, room int, l ...says) {
	t.Helper()
	p := pair(t, x, 0, room, 10)
	for k, y := range l {
		told := ""
		switch y.do.kind {
		case "put":
			told = fmt.Sprint(p.s.Put(y.do.at, []byte(y.do.b)))
		case "force":
			p.s.Force(y.do.at, []byte(y.do.b))
		case "shut":
			p.s.Close(y.do.at)
		case "take":
			told = string(p.s.Take(y.do.at, y.do.most))
		case "state":
			told = [...]string{"open", "closed", "broken"}[p.s.State(y.do.at)]
		case "drain":
			told = string(p.s.Drain())
		case "update":
			told = fmt.Sprint(p.s.Update(y.do.t, y.do.at))
		}
		if told != y.want {
			t.Errorf("%s: the thing %d, %v, of %+v tells %q, not %q", promise, k, y.do, x, told, y.want)
		}
	}
}

// of is a toxic of that kind.
func of(kind, a, b int) api.Toxic {
	if kind == api.Pass {
		return api.Toxic{}
	}
	return api.Toxic{Name: "a", Kind: kind, Often: 100, A: a, B: b}
}

// some are toxics of each kind.
func some() []api.Toxic {
	return []api.Toxic{
		of(api.Pass, 0, 0),
		of(api.Latency, 0, 0), of(api.Latency, 3, 0), of(api.Latency, 3, 3), of(api.Latency, 2, 1),
		of(api.Bandwidth, 0, 2), of(api.Bandwidth, 1, 1), of(api.Bandwidth, 2, 3), of(api.Bandwidth, 3, 2),
		of(api.Slicer, 1, 0), of(api.Slicer, 1, 2), of(api.Slicer, 3, 0), of(api.Slicer, 3, 2),
		of(api.Timeout, 1, 0), of(api.Timeout, 3, 0),
		of(api.Reset, 1, 0), of(api.Reset, 3, 0),
		of(api.Limit, 0, 0), of(api.Limit, 2, 0), of(api.Limit, 4, 0),
		of(api.Slow, 0, 0), of(api.Slow, 2, 0),
	}
}

// ends are toxics whose numbers are at, or beside, their ends.
func ends() []api.Toxic {
	return []api.Toxic{
		of(api.Latency, top, 0), of(api.Latency, top, top), of(api.Latency, top/2, top/2), of(api.Latency, top/2, top/2-1), of(api.Latency, top/2+1, top/2), of(api.Latency, 1<<32, 1<<32-1),
		of(api.Bandwidth, top, api.MaxRoom), of(api.Bandwidth, top, 1), of(api.Bandwidth, 0, 1), of(api.Bandwidth, 1, api.MaxRoom), of(api.Bandwidth, 1<<32, 4095),
		of(api.Slicer, api.MaxRoom, top), of(api.Slicer, api.MaxRoom, 0), of(api.Slicer, 1, top), of(api.Slicer, 2, 1<<32),
		of(api.Timeout, top, 0), of(api.Timeout, top-1, 0), of(api.Reset, top, 0), of(api.Reset, top-1, 0),
		of(api.Limit, top, 0), of(api.Limit, 1<<32, 0), of(api.Slow, top, 0), of(api.Slow, top-1, 0), of(api.Slow, 1<<32, 0),
	}
}

// edges are ticks at, and beyond, the ends of what a tick may be.
func edges() []int {
	return []int{math.MinInt, -top, -1, 0, 1, 1<<32 - 1, 1 << 32, top - 2, top - 1, top, top + 1, 1 << 62, math.MaxInt}
}

func TestExample(t *testing.T) {
	s := pair(t, of(api.Latency, 5, 0), 0, 9, 0).s
	n, early, first := s.Put(0, []byte("ab")), string(s.Take(4, 9)), string(s.Take(5, 1))
	s.Close(5)
	open, second, closed := s.State(5), string(s.Take(6, 9)), s.State(6)
	if n != 2 || early != "" || first != "a" || open != api.Open || second != "b" || closed != api.Closed {
		t.Errorf("P10.1: the chapter's example: %d, %q, %q, %d, %q, %d", n, early, first, open, second, closed)
	}
}

// P10.1

func TestNew(t *testing.T) {
	for _, x := range append(some(), ends()...) {
		for _, room := range []int{1, 2, 4095, 4096} {
			for _, now := range edges() {
				p := pair(t, x, 7, room, now)
				if p.s.Toxic() != x || p.s.Held() != 0 || p.s.Free() != room || p.s.Passed() != 0 {
					t.Fatalf("P10.1: New(%+v, %d, %d) is not so: %d held, %d free, %d passed", x, room, now, p.s.Held(), p.s.Free(), p.s.Passed())
				}
				p.step(t, state(now))
			}
		}
	}
}

func TestNewRefuses(t *testing.T) {
	right := of(api.Limit, 2, 0)
	for _, x := range []struct {
		t    api.Toxic
		room int
		want api.Errno
	}{
		{api.Toxic{}, 0, api.ErrArg},
		{api.Toxic{}, -1, api.ErrArg},
		{api.Toxic{}, math.MinInt, api.ErrArg},
		{api.Toxic{}, 4097, api.ErrArg},
		{api.Toxic{}, math.MaxInt, api.ErrArg},
		{right, 0, api.ErrArg},
		{right, 4097, api.ErrArg},
		{right, 1<<32 + 1, api.ErrArg},
		{api.Toxic{Kind: api.Latency}, 9, api.ErrToxicForm},
		{api.Toxic{Name: "A", Kind: api.Latency}, 9, api.ErrToxicForm},
		{api.Toxic{Often: 1}, 9, api.ErrToxicForm},
		{api.Toxic{Up: true}, 9, api.ErrToxicForm},
		{api.Toxic{A: 1}, 9, api.ErrToxicForm},
		{api.Toxic{B: 1}, 9, api.ErrToxicForm},
		{api.Toxic{Name: "a"}, 9, api.ErrToxicKind},
		{api.Toxic{Name: "a", Kind: 8}, 9, api.ErrToxicKind},
		{api.Toxic{Name: "a", Kind: -1}, 9, api.ErrToxicKind},
		{api.Toxic{Name: "a", Kind: math.MaxInt}, 9, api.ErrToxicKind},
		{of(api.Reset, 0, 0), 9, api.ErrToxicPart},
		{of(api.Timeout, 0, 0), 9, api.ErrToxicPart},
		{of(api.Bandwidth, 1, 0), 9, api.ErrToxicPart},
		{of(api.Bandwidth, 1, 4097), 9, api.ErrToxicPart},
		{of(api.Slicer, 0, 1), 9, api.ErrToxicPart},
		{of(api.Latency, 1, 2), 9, api.ErrToxicPart},
		{of(api.Limit, -1, 0), 9, api.ErrToxicPart},
		{of(api.Slow, top+1, 0), 9, api.ErrToxicPart},
		{api.Toxic{Name: "a", Kind: api.Slow, Often: 101}, 9, api.ErrToxicPart},
		{api.Toxic{Kind: api.Latency}, 0, api.ErrToxicForm},
		{api.Toxic{Name: "a"}, 4097, api.ErrToxicKind},
		{of(api.Reset, 0, 0), 0, api.ErrToxicPart},
	} {
		if s, e := New(x.t, 3, x.room, 5); e != x.want || s != nil {
			t.Errorf("P10.1: New(%+v, room %d) is %v, %d, not %d", x.t, x.room, s, e, x.want)
		}
	}
}

// TestAnyOften: a stage does what its toxic says, whatever its Often.
func TestAnyOften(t *testing.T) {
	for _, often := range []int{0, 1, 50, 100} {
		x := api.Toxic{Name: "b", Kind: api.Limit, Up: often > 1, Often: often, A: 2}
		row(t, "P10.1", x, 9, says{put(10, "abc"), "3"}, says{take(10, 9), "ab"}, says{state(10), "closed"})
	}
}

func TestHeldFreePassed(t *testing.T) {
	s := pair(t, of(api.Pass, 0, 0), 0, 4, 0).s
	for k, x := range []struct {
		do                 func()
		held, free, passed int
	}{
		{func() { s.Put(0, []byte("abc")) }, 3, 1, 0},
		{func() { s.Put(0, []byte("def")) }, 4, 0, 0},
		{func() { s.Force(0, []byte("ghi")) }, 7, 0, 0},
		{func() { s.Take(0, 2) }, 5, 0, 2},
		{func() { s.Take(0, 1) }, 4, 0, 3},
		{func() { s.Take(0, 1) }, 3, 1, 4},
		{func() { s.Take(0, 0) }, 3, 1, 4},
		{func() { s.Drain() }, 0, 4, 4},
		{func() { s.Take(0, 9) }, 0, 4, 4},
		{func() { s.Put(0, []byte("klmno")) }, 4, 0, 4},
		{func() { s.Close(0) }, 4, 0, 4},
		{func() { s.Take(0, 9) }, 0, 4, 8},
	} {
		x.do()
		if s.Held() != x.held || s.Free() != x.free || s.Passed() != x.passed {
			t.Errorf("P10.1: behind the call %d: %d held, %d free, %d passed", k, s.Held(), s.Free(), s.Passed())
		}
	}
}

// TestSeed: the seed is the state of the dice, and each dice is of the state behind the one ahead of it.
func TestSeed(t *testing.T) {
	for _, seed := range []uint64{0, 1, 2, 42, 1 << 63, math.MaxUint64, math.MaxUint64 - dice.Step} {
		lag := pair(t, of(api.Latency, 100, 20), seed, 4096, 0).s
		cut := pair(t, of(api.Slicer, 30, 0), seed, 4096, 0).s
		cut.Put(0, []byte(strings.Repeat("x", 4096)))
		for s, now, last := seed, 0, 0; now < 100; now++ {
			later, next := dice.Range(s, 80, 120)
			lag.Put(now, []byte("a"))
			last = max(last, now+later)
			if at := lag.Last(); at != last {
				t.Fatalf("P10.3: of the seed %d the byte of %d is ready at %d, not %d", seed, now, at, last)
			}
			long, same := dice.Below(s, 30)
			if n := len(cut.Take(now, 4096)); n != long+1 || next != same {
				t.Fatalf("P10.4: of the seed %d the slice of %d is %d, not %d", seed, now, n, long+1)
			}
			s = next
		}
	}
}

// P10.2

func TestStateOfPass(t *testing.T) {
	for _, x := range []api.Toxic{{}, of(api.Latency, 0, 0), of(api.Bandwidth, 9, 9), of(api.Slicer, 1, 0), of(api.Limit, 9, 0), of(api.Reset, 900, 0), of(api.Slow, 0, 0)} {
		row(t, "P10.2", x, 9,
			says{state(0), "open"}, says{state(10), "open"}, says{put(11, "a"), "1"}, says{shut(12), ""}, says{state(12), "open"}, says{put(13, "b"), "0"},
			says{state(13), "open"}, says{take(14, 1), "a"}, says{state(14), "closed"}, says{state(0), "closed"}, says{force(15, "c"), ""}, says{drain(), ""}, says{state(15), "closed"})
		row(t, "P10.2", x, 9, says{shut(12), ""}, says{state(12), "closed"})
		row(t, "P10.2", x, 9, says{put(11, "ab"), "2"}, says{shut(12), ""}, says{drain(), "ab"}, says{state(12), "closed"})
		row(t, "P10.2", x, 9, says{shut(12), ""}, says{force(12, "c"), ""}, says{drain(), ""}, says{take(12, 1), ""})
	}
}

func TestStateOfReset(t *testing.T) {
	x := of(api.Reset, 4, 0)
	row(t, "P10.2", x, 9, says{state(13), "open"}, says{state(14), "broken"}, says{state(0), "broken"}, says{state(99), "broken"})
	row(t, "P10.2", x, 9, says{state(99), "broken"}, says{put(99, "a"), "0"}, says{force(99, "a"), ""}, says{drain(), ""}, says{shut(99), ""}, says{state(99), "broken"})
	row(t, "P10.2", x, 9, says{put(13, "ab"), "2"}, says{shut(13), ""}, says{take(13, 1), "a"}, says{take(14, 1), ""}, says{state(14), "broken"}, says{drain(), "b"}, says{state(14), "broken"})
	row(t, "P10.2", x, 9, says{shut(12), ""}, says{state(12), "closed"}, says{state(14), "closed"})
	row(t, "P10.2", x, 9, says{shut(12), ""}, says{put(13, "a"), "0"}, says{state(14), "closed"})
	row(t, "P10.2", x, 9, says{shut(12), ""}, says{state(14), "broken"})
	row(t, "P10.2", x, 9, says{shut(12), ""}, says{shut(13), ""}, says{state(14), "broken"})
	row(t, "P10.2", x, 9, says{put(12, "a"), "1"}, says{shut(12), ""}, says{take(13, 1), "a"}, says{state(14), "broken"})
	row(t, "P10.2", of(api.Reset, top, 0), 9, says{state(top - 1), "open"}, says{state(top), "broken"})
	row(t, "P10.2", of(api.Reset, top-1, 0), 9, says{state(top - 1), "open"}, says{state(math.MaxInt), "broken"})
}

func TestStateOfTimeout(t *testing.T) {
	x := of(api.Timeout, 4, 0)
	row(t, "P10.2", x, 9, says{state(13), "open"}, says{state(14), "closed"}, says{state(0), "closed"})
	row(t, "P10.2", x, 9, says{shut(10), ""}, says{state(10), "open"}, says{state(13), "open"}, says{force(13, "a"), ""}, says{take(13, 1), ""}, says{state(14), "closed"}, says{drain(), "a"})
	row(t, "P10.2", x, 9, says{put(13, "ab"), "2"}, says{shut(13), ""}, says{drain(), "ab"}, says{state(13), "open"}, says{put(14, "c"), "0"}, says{state(14), "closed"})
	row(t, "P10.2", of(api.Timeout, top, 0), 9, says{state(top - 1), "open"}, says{state(top), "closed"})
}

func TestStateOfLimit(t *testing.T) {
	x := of(api.Limit, 3, 0)
	row(t, "P10.2", of(api.Limit, 0, 0), 9, says{put(10, "a"), "0"}, says{state(10), "closed"})
	row(t, "P10.2", x, 9, says{put(10, "abc"), "3"}, says{take(10, 2), "ab"}, says{state(10), "open"}, says{take(10, 2), "c"}, says{state(10), "closed"})
	row(t, "P10.2", x, 9, says{put(10, "abcd"), "4"}, says{take(10, 9), "abc"}, says{put(10, "e"), "0"}, says{take(10, 9), ""}, says{drain(), "d"}, says{state(10), "closed"})
	row(t, "P10.2", x, 9, says{put(10, "abcd"), "4"}, says{drain(), "abcd"}, says{state(10), "open"}, says{put(10, "efgh"), "4"}, says{take(11, 9), "efg"}, says{state(11), "closed"})
	row(t, "P10.2", x, 9, says{put(10, "ab"), "2"}, says{shut(10), ""}, says{state(10), "open"}, says{take(11, 9), "ab"}, says{state(11), "closed"})
}

func TestStateOfSlow(t *testing.T) {
	x := of(api.Slow, 3, 0)
	row(t, "P10.2", x, 9, says{shut(11), ""}, says{state(11), "open"}, says{shut(13), ""}, says{state(13), "open"}, says{state(14), "closed"})
	row(t, "P10.2", x, 9, says{put(10, "ab"), "2"}, says{shut(11), ""}, says{state(14), "open"}, says{take(14, 1), "a"}, says{state(99), "open"}, says{take(99, 1), "b"}, says{state(99), "closed"})
	row(t, "P10.2", x, 9, says{shut(11), ""}, says{force(13, "a"), ""}, says{state(14), "open"}, says{take(14, 9), "a"}, says{state(14), "closed"})
	row(t, "P10.2", x, 9, says{shut(math.MaxInt), ""}, says{state(0), "closed"})
	row(t, "P10.2", of(api.Slow, top, 0), 9, says{shut(11), ""}, says{state(top - 1), "open"}, says{state(top), "closed"})
	row(t, "P10.2", of(api.Slow, 0, 0), 9, says{shut(11), ""}, says{state(11), "closed"})
}

// TestEachCallLooksFirst: what a stage is at a call with a tick, it stays, even if its numbers are others later. Close does not look.
func TestEachCallLooksFirst(t *testing.T) {
	for _, x := range []api.Toxic{of(api.Timeout, 4, 0), of(api.Reset, 4, 0)} {
		want := map[int]string{api.Timeout: "closed", api.Reset: "broken"}[x.Kind]
		for _, call := range []says{{put(14, "a"), "0"}, {put(14, ""), "0"}, {force(14, "a"), ""}, {take(14, 9), ""}, {take(14, 0), ""}, {state(14), want}, {numbers(14, x, 50, 0), "0"}} {
			row(t, "P10.2", x, 9, call, says{numbers(14, x, 50, 0), "0"}, says{state(14), want}, says{take(14, 9), ""})
		}
		row(t, "P10.2", x, 9, says{numbers(13, x, 50, 0), "0"}, says{state(59), "open"}, says{state(60), want})
	}
	lim := of(api.Limit, 2, 0)
	row(t, "P10.2", lim, 9, says{put(10, "abc"), "3"}, says{take(10, 9), "ab"}, says{numbers(10, lim, 3, 0), "0"}, says{take(10, 9), ""}, says{state(10), "closed"})
	slow := of(api.Slow, 2, 0)
	row(t, "P10.2", slow, 9, says{shut(10), ""}, says{numbers(12, slow, 9, 0), "0"}, says{state(12), "closed"})
	row(t, "P10.2", slow, 9, says{shut(10), ""}, says{numbers(11, slow, 9, 0), "0"}, says{state(18), "open"}, says{state(19), "closed"})
}

// TestClock: a tick that is gone is taken as the greatest one, whichever call told that; a refused Update has told none.
func TestClock(t *testing.T) {
	lag := of(api.Latency, 5, 0)
	for _, later := range []thing{put(20, ""), put(20, "x"), force(20, ""), force(20, "x"), take(20, 0), take(20, -1), state(20), numbers(20, lag, 5, 0)} {
		p := pair(t, lag, 0, 9, 10)
		p.steps(t, later, put(3, "ab"))
		if at := p.s.Last(); at != 25 {
			t.Errorf("P10.3: behind %v of 20 a byte put at 3 is ready at %d, not 25", later, at)
		}
		p.steps(t, take(24, 9), take(25, 9))
	}
	p := pair(t, lag, 0, 9, 10)
	p.steps(t, shut(20), force(3, "ab"), take(24, 9), take(25, 9))
	for _, wrong := range []api.Toxic{of(api.Slow, 5, 0), of(api.Latency, 5, 6), {Kind: api.Latency}, {}} {
		s := pair(t, lag, 0, 9, 10).s
		if e := s.Update(wrong, 20); e == api.OK {
			t.Errorf("P10.5: Update(%+v) is not refused", wrong)
		}
		s.Put(11, []byte("a"))
		if b := s.Take(16, 9); string(b) != "a" {
			t.Errorf("R2: behind a refused Update(%+v) of 20 a byte of 11 is not ready at 16", wrong)
		}
	}
	row(t, "P10.2", of(api.Reset, 4, 0), 9, says{update(14, of(api.Slow, 1, 0), 0), "91"}, says{update(14, of(api.Reset, 0, 0), 0), "92"}, says{state(13), "open"}, says{state(14), "broken"})
}

func TestClockBegins(t *testing.T) {
	for _, now := range edges() {
		for _, later := range []int{0, 1, 4, 5} {
			p := pair(t, of(api.Timeout, 4, 0), 0, 9, now)
			p.step(t, state(asTick(now)+later))
			want := api.Open
			if asTick(asTick(now)+later) >= asTick(asTick(now)+4) {
				want = api.Closed
			}
			if n := p.s.State(now); n != want {
				t.Errorf("P10.2: State, %d behind New of %d, is %d, not %d", later, now, n, want)
			}
		}
	}
	p := pair(t, of(api.Latency, 5, 0), 0, 9, 10)
	p.steps(t, put(2, "a"), take(14, 9), take(15, 9))
}

// P10.3

func TestPut(t *testing.T) {
	x := api.Toxic{}
	row(t, "P10.3", x, 4, says{put(10, ""), "0"}, says{put(10, "a"), "1"}, says{put(10, "bcdef"), "3"}, says{put(10, "g"), "0"}, says{take(10, 2), "ab"}, says{put(10, "hij"), "2"}, says{take(10, 9), "cdhi"})
	row(t, "P10.3", x, 1, says{put(10, "ab"), "1"}, says{put(10, "c"), "0"}, says{drain(), "a"}, says{put(10, "c"), "1"})
	row(t, "P10.3", x, 9, says{put(10, "a"), "1"}, says{shut(10), ""}, says{put(10, "b"), "0"}, says{take(10, 9), "a"})
	row(t, "P10.3", x, 2, says{force(10, "abc"), ""}, says{put(10, "d"), "0"}, says{take(10, 2), "ab"}, says{put(10, "de"), "1"}, says{take(10, 9), "cd"})
	row(t, "P10.3", of(api.Reset, 4, 0), 9, says{put(14, "a"), "0"}, says{drain(), ""})
	long := strings.Repeat("ab", 3000)
	row(t, "P10.3", x, 4096, says{put(10, long), "4096"}, says{put(10, "x"), "0"}, says{take(10, 9999), long[:4096]})
	row(t, "P10.3", x, 4096, says{put(10, long[:4095]), "4095"}, says{put(10, "xy"), "1"}, says{put(10, "y"), "0"})
}

func TestForce(t *testing.T) {
	x := api.Toxic{}
	row(t, "P10.3", x, 1, says{force(10, "abcd"), ""}, says{force(10, ""), ""}, says{force(10, "ef"), ""}, says{take(10, 9), "abcdef"})
	row(t, "P10.3", x, 9, says{put(10, "a"), "1"}, says{shut(10), ""}, says{force(10, "bc"), ""}, says{take(10, 9), "abc"}, says{state(10), "closed"})
	row(t, "P10.3", x, 9, says{shut(10), ""}, says{force(10, "bc"), ""}, says{drain(), ""})
	row(t, "P10.3", of(api.Reset, 4, 0), 9, says{force(13, "a"), ""}, says{force(14, "b"), ""}, says{drain(), "a"})
	row(t, "P10.3", of(api.Timeout, 4, 0), 9, says{shut(13), ""}, says{force(13, "a"), ""}, says{force(14, "b"), ""}, says{drain(), "a"})
	long := strings.Repeat("ab", 20000)
	row(t, "P10.3", x, 3, says{force(10, long), ""}, says{put(10, "x"), "0"}, says{take(10, math.MaxInt), long})
}

func TestClose(t *testing.T) {
	slow := of(api.Slow, 3, 0)
	row(t, "P10.3", slow, 9, says{shut(-5), ""}, says{state(12), "open"}, says{state(13), "closed"})
	row(t, "P10.3", slow, 9, says{state(20), "open"}, says{shut(11), ""}, says{state(22), "open"}, says{state(23), "closed"})
	row(t, "P10.3", slow, 9, says{shut(11), ""}, says{shut(12), ""}, says{shut(99), ""}, says{state(0), "closed"})
	row(t, "P10.3", of(api.Limit, 1, 0), 9, says{put(10, "ab"), "2"}, says{take(10, 9), "a"}, says{shut(10), ""}, says{state(10), "closed"}, says{drain(), "b"})
}

// TestLatencyIsOneDiceACall: of each Put, and each Force, of a byte at least one dice is taken, and of no other call.
func TestLatencyIsOneDiceACall(t *testing.T) {
	x := of(api.Latency, 50, 40)
	for _, idle := range []thing{put(0, ""), force(0, ""), take(0, 9), take(0, -1), state(0), drain(), {kind: "copy"}, update(0, x, api.OK), update(0, of(api.Latency, 1, 2), api.ErrToxicPart)} {
		p, s := pair(t, x, 5, 9, 0), uint64(5)
		for k := range 20 {
			later, next := dice.Range(s, 10, 90)
			now := 100 * k
			p.steps(t, idle, force(now, "ab"), idle)
			if at := p.s.Last(); at != now+later {
				t.Fatalf("P10.3: behind %v the bytes of %d are ready at %d, not %d", idle, now, at, now+later)
			}
			s = next
		}
	}
	full := pair(t, x, 5, 1, 0)
	full.steps(t, put(0, "a"), put(0, "b"), take(90, 1), put(90, "c"))
	first, next := dice.Range(5, 10, 90)
	second, _ := dice.Range(next, 10, 90)
	if at := full.s.Last(); at != max(first, 90+second) {
		t.Errorf("P10.3: a Put without room took a dice: ready at %d", at)
	}
}

// TestLatencyBeyondTheEnd: dice.Range tells the low one, and takes none, if the high one is beyond MaxTick.
func TestLatencyBeyondTheEnd(t *testing.T) {
	for _, x := range []api.Toxic{of(api.Latency, top, 1), of(api.Latency, top-1, 2), of(api.Latency, top/2+1, top/2), of(api.Latency, top, top), of(api.Latency, top, top-7)} {
		p := pair(t, x, 9, 9, 0)
		p.step(t, put(0, "a"))
		if at := p.s.Last(); at != x.A-x.B {
			t.Errorf("P10.3: of %+v a byte of 0 is ready at %d, not %d", x, at, x.A-x.B)
		}
		later, _ := dice.Range(9, 10, 90)
		p.steps(t, numbers(0, x, 50, 40), put(top-100, "b"))
		if at := p.s.Last(); at != max(x.A-x.B, top-100+later) {
			t.Errorf("P10.3: of %+v a dice was taken: the next byte is ready at %d", x, at)
		}
	}
	whole := pair(t, of(api.Latency, top/2, top/2), 9, 9, 0)
	later, next := dice.Range(9, 0, top)
	second, _ := dice.Range(next, 10, 90)
	whole.steps(t, put(0, "a"), numbers(0, whole.m.t, 50, 40), put(later, "b"))
	if at := whole.s.Last(); at != sum(later, second) {
		t.Errorf("P10.3: up to MaxTick no dice was taken: ready at %d", at)
	}
	p := pair(t, of(api.Latency, 9, 0), 0, 9, 0)
	p.steps(t, put(top-3, "a"), take(top-1, 9), take(top, 9), put(math.MaxInt, "b"), take(0, 9))
}

// P10.4

func TestTakeOfThoseThatGiveAll(t *testing.T) {
	for _, x := range []api.Toxic{{}, of(api.Latency, 0, 0), of(api.Reset, 900, 0), of(api.Slow, 5, 0), of(api.Bandwidth, 9, 9), of(api.Limit, 99, 0)} {
		row(t, "P10.4", x, 9, says{take(10, 9), ""}, says{put(10, "abcdef"), "6"}, says{take(10, 0), ""}, says{take(10, -1), ""}, says{take(10, math.MinInt), ""},
			says{take(10, 1), "a"}, says{take(9, 2), "bc"}, says{take(10, math.MaxInt), "def"}, says{take(10, 9), ""})
	}
}

func TestTakeOfLatency(t *testing.T) {
	x := of(api.Latency, 5, 0)
	row(t, "P10.4", x, 9, says{put(10, "ab"), "2"}, says{put(12, "c"), "1"}, says{take(14, 9), ""}, says{take(15, 1), "a"}, says{take(15, 9), "b"}, says{take(16, 9), ""}, says{take(17, 9), "c"})
	row(t, "P10.4", x, 9, says{put(10, "ab"), "2"}, says{put(12, "c"), "1"}, says{shut(12), ""}, says{take(17, 9), "abc"}, says{state(17), "closed"})
	row(t, "P10.4", x, 9, says{put(10, "a"), "1"}, says{numbers(10, x, 1, 0), "0"}, says{put(10, "b"), "1"}, says{take(14, 9), ""}, says{take(15, 9), "ab"}, says{put(15, "c"), "1"}, says{take(16, 9), "c"})
}

func TestTakeOfTimeout(t *testing.T) {
	row(t, "P10.4", of(api.Timeout, 4, 0), 9, says{put(10, "ab"), "2"}, says{take(10, 9), ""}, says{take(13, math.MaxInt), ""}, says{take(14, 9), ""}, says{take(99, 9), ""}, says{drain(), "ab"})
}

func TestTakeOfBandwidth(t *testing.T) {
	x := of(api.Bandwidth, 2, 3)
	all := says{put(10, "abcdefghijklmnop"), "16"}
	row(t, "P10.4", x, 16, all, says{take(10, 9), "abc"}, says{take(10, 9), ""}, says{take(11, 1), "d"}, says{take(11, 9), "e"}, says{take(11, 9), ""}, says{take(12, 9), "fg"}, says{take(99, 9), "hij"}, says{take(5, 9), ""})
	row(t, "P10.4", x, 16, all, says{take(10, 2), "ab"}, says{take(10, 0), ""}, says{take(10, -9), ""}, says{take(10, 9), "c"})
	row(t, "P10.4", x, 16, says{put(10, "ab"), "2"}, says{take(10, 9), "ab"}, says{put(10, "cd"), "2"}, says{take(10, 9), "c"}, says{take(10, 9), ""})
	row(t, "P10.4", of(api.Bandwidth, 0, 3), 16, all, says{take(10, 2), "ab"}, says{take(99, 9), "c"}, says{take(top, 9), ""})
	row(t, "P10.4", of(api.Bandwidth, 5, 1), 16, all, says{take(10, 9), "a"}, says{take(11, 9), "b"}, says{take(20, 9), "c"})
	row(t, "P10.4", of(api.Bandwidth, top, 4096), 4096, says{put(0, strings.Repeat("x", 4096)), "4096"}, says{take(0, 4095), strings.Repeat("x", 4095)}, says{take(10, 9), "x"}, says{put(10, "ab"), "2"}, says{take(10, 9), ""}, says{take(11, 9), "ab"})
}

func TestTakeOfSlicer(t *testing.T) {
	one := of(api.Slicer, 1, 2)
	row(t, "P10.4", one, 9, says{take(10, 9), ""}, says{put(10, "abcd"), "4"}, says{take(10, 0), ""}, says{take(10, -1), ""}, says{take(10, 9), "a"}, says{take(10, 9), ""}, says{take(11, 9), ""}, says{take(12, 9), "b"}, says{take(13, 9), ""}, says{take(19, 9), "c"}, says{take(20, 9), ""}, says{take(21, 9), "d"}, says{put(21, "e"), "1"}, says{take(22, 9), ""}, says{take(23, 9), "e"})
	row(t, "P10.4", of(api.Slicer, 1, 0), 9, says{put(10, "abc"), "3"}, says{take(10, 9), "a"}, says{take(10, 9), "b"}, says{take(10, 9), "c"}, says{take(10, 9), ""})
	row(t, "P10.4", of(api.Slicer, 1, top), 9, says{put(10, "abc"), "3"}, says{take(10, 9), "a"}, says{take(top-1, 9), ""}, says{take(top, 9), "b"}, says{take(top, 9), "c"})
	// The dice of the state 0 is 14 of 16 first.
	x, b := of(api.Slicer, 16, 3), "abcdefghijklmnopqrstuvwxyz"
	row(t, "P10.4", x, 99, says{put(10, b), "26"}, says{take(10, 99), b[:15]}, says{take(12, 99), ""}, says{take(13, 3), "pqr"}, says{take(15, 3), ""}, says{state(16), "open"})
	row(t, "P10.4", x, 99, says{put(10, b[:7]), "7"}, says{take(10, 99), b[:7]}, says{put(10, b), "26"}, says{take(12, 99), ""})
}

// TestSlicerIsOneDiceASlice: a dice is taken of each slice, and of no other call.
func TestSlicerIsOneDiceASlice(t *testing.T) {
	x := of(api.Slicer, 50, 2)
	for _, idle := range []thing{put(0, "z"), force(0, "z"), take(0, 0), take(0, -1), state(0), {kind: "copy"}, shut(0), update(0, x, api.OK), update(0, of(api.Slicer, 0, 2), api.ErrToxicPart)} {
		p, s := pair(t, x, 5, 9, 0), uint64(5)
		p.step(t, force(0, strings.Repeat("x", 2000)))
		for k := range 20 {
			long, next := dice.Below(s, 50)
			p.step(t, idle)
			if n := len(p.s.Take(2*k, 99)); n != long+1 {
				t.Fatalf("P10.4: behind %v the slice %d is of %d, not %d", idle, k, n, long+1)
			}
			if b := p.s.Take(2*k+1, 99); len(b) != 0 {
				t.Fatalf("P10.4: in the pause %q is taken", b)
			}
			p.m.take(2*k, 99)
			p.m.take(2*k+1, 99)
			s = next
		}
	}
	p := pair(t, x, 5, 99, 0)
	p.steps(t, take(0, 9), take(9, 9), put(9, strings.Repeat("x", 60)), take(9, 99))
	if long, _ := dice.Below(5, 50); p.s.Passed() != long+1 {
		t.Errorf("P10.4: a Take of nothing took a dice: %d", p.s.Passed())
	}
}

func TestTakeOfLimit(t *testing.T) {
	x := of(api.Limit, 3, 0)
	row(t, "P10.4", x, 9, says{put(10, "abcdef"), "6"}, says{take(10, 0), ""}, says{take(10, 1), "a"}, says{take(10, 9), "bc"}, says{take(10, 9), ""}, says{drain(), "def"})
	row(t, "P10.4", x, 9, says{put(10, "abcdef"), "6"}, says{take(10, 1), "a"}, says{numbers(10, x, 5, 0), "0"}, says{take(10, 9), "bcde"}, says{state(10), "closed"})
	row(t, "P10.4", x, 9, says{put(10, "abcdef"), "6"}, says{take(10, 2), "ab"}, says{numbers(10, x, 1, 0), "0"}, says{take(10, 9), ""}, says{state(10), "closed"})
	row(t, "P10.4", x, 9, says{put(10, "abcdef"), "6"}, says{take(10, 2), "ab"}, says{numbers(10, x, 2, 0), "0"}, says{take(10, 9), ""}, says{state(10), "closed"})
}

// P10.5

func TestUpdateRefuses(t *testing.T) {
	for _, x := range some() {
		for kind := -1; kind <= 8; kind++ {
			for _, y := range []struct {
				t    api.Toxic
				want api.Errno
			}{
				{api.Toxic{Kind: kind, Often: 100, A: 1, B: 1}, api.ErrToxicForm},
				{api.Toxic{Name: "A b", Kind: kind, Often: 101, A: -1}, api.ErrToxicForm},
				{api.Toxic{Name: "b", Kind: kind, Often: 101, A: 1}, api.ErrToxicPart},
				{api.Toxic{Name: "b", Kind: kind, A: -1}, api.ErrToxicPart},
				{api.Toxic{Name: "b", Kind: kind, A: 1, B: -1}, api.ErrToxicPart},
			} {
				want := y.want
				if kind != x.Kind {
					want = api.ErrToxicKind
				} else if kind == api.Pass {
					want = api.OK
				}
				p := pair(t, x, 0, 9, 10)
				if e := p.s.Update(y.t, 99); e != want {
					t.Errorf("P10.5: of %+v Update(%+v) is %d, not %d", x, y.t, e, want)
				}
				p.stands(t, "refused")
				p.steps(t, put(10, "abcd"), take(10, 2), state(10), take(13, 9), state(13), shut(13), state(15))
			}
		}
	}
}

func TestUpdateOfPass(t *testing.T) {
	p := pair(t, api.Toxic{}, 0, 9, 10)
	p.step(t, put(10, "ab"))
	for _, x := range []api.Toxic{{}, {Name: "b"}, {Name: "A"}, {A: -1, B: 7, Often: 900, Up: true}} {
		p.steps(t, update(12, x, api.OK), take(12, 1))
	}
	p.steps(t, update(12, of(api.Latency, 1, 0), api.OK), shut(12), state(12), update(12, api.Toxic{Name: "b"}, api.OK), state(13))
}

func TestUpdateTellsItsToxic(t *testing.T) {
	for _, x := range append(some(), ends()...) {
		for _, now := range edges() {
			p := pair(t, x, 3, 9, 10)
			y := x
			y.Name, y.Up, y.Often = "other", !x.Up, 7
			if x.Kind == api.Pass {
				continue
			}
			p.step(t, update(now, y, api.OK))
			if z := p.s.Toxic(); z != y {
				t.Errorf("P10.5: behind Update(%+v, %d) Toxic is %+v", y, now, z)
			}
		}
	}
}

// TestUpdateOfAnEndedOne: it has the other toxic, and stays ended.
func TestUpdateOfAnEndedOne(t *testing.T) {
	for _, x := range some() {
		if x.Kind == api.Pass {
			continue
		}
		p := pair(t, x, 0, 9, 10)
		y := x
		y.A, y.Name = x.A+50, "b"
		p.steps(t, shut(10), state(13), update(13, y, api.OK), state(13), force(13, "a"), take(13, 9), state(63))
		if p.s.Toxic() != y {
			t.Errorf("P10.5: of %+v Update is not told", x)
		}
	}
}

func TestUpdateOfBandwidth(t *testing.T) {
	x := of(api.Bandwidth, 2, 8)
	all := says{put(10, "abcdefghijklmnop"), "16"}
	row(t, "P10.5", x, 16, all, says{take(10, 9), "abcdefgh"}, says{numbers(12, x, 1, 8), "0"}, says{take(12, 9), "ijkl"}, says{take(13, 9), "m"})
	row(t, "P10.5", x, 16, all, says{numbers(10, x, 2, 3), "0"}, says{take(10, 9), "abc"}, says{take(11, 9), "de"})
	row(t, "P10.5", x, 16, all, says{take(10, 9), "abcdefgh"}, says{numbers(10, x, 0, 16), "0"}, says{take(99, 9), ""}, says{numbers(99, x, 3, 16), "0"}, says{take(100, 9), "ijk"}, says{take(101, 9), "lmn"})
	row(t, "P10.5", x, 16, all, says{take(10, 9), "abcdefgh"}, says{take(12, 1), "i"}, says{numbers(11, x, 5, 5), "0"}, says{take(11, 9), "jkl"}, says{take(13, 9), "mnop"})
	row(t, "P10.5", x, 16, all, says{take(10, 9), "abcdefgh"}, says{update(12, of(api.Bandwidth, 1, 0), 0), "92"}, says{take(11, 9), "ij"})
}

// TestUpdateLeaves: what is held, the beginning, the pause, and the dice stay.
func TestUpdateLeaves(t *testing.T) {
	cut := of(api.Slicer, 1, 5)
	row(t, "P10.5", cut, 9, says{put(10, "abc"), "3"}, says{take(10, 9), "a"}, says{numbers(11, cut, 1, 0), "0"}, says{take(14, 9), ""}, says{take(15, 9), "b"}, says{take(15, 9), "c"})
	lag := of(api.Latency, 20, 0)
	row(t, "P10.5", lag, 9, says{put(10, "abc"), "3"}, says{numbers(11, lag, 0, 0), "0"}, says{take(29, 9), ""}, says{take(30, 9), "abc"})
	end := of(api.Timeout, 20, 0)
	row(t, "P10.5", end, 9, says{numbers(15, end, 6, 0), "0"}, says{state(15), "open"}, says{state(16), "closed"})
	row(t, "P10.5", end, 9, says{numbers(15, end, 3, 0), "0"}, says{state(0), "closed"})
	p := pair(t, of(api.Slicer, 9, 0), 11, 99, 10)
	p.steps(t, put(10, strings.Repeat("abcdefghij", 9)), take(10, 99), numbers(10, cut, 40, 0), take(10, 99), numbers(10, cut, 9, 0), take(10, 99))
}

func TestDrain(t *testing.T) {
	for _, x := range some() {
		p := pair(t, x, 0, 3, 10)
		p.steps(t, drain(), put(10, "ab"), force(10, "cde"), drain(), put(10, "fg"), drain(), drain(), shut(10), drain(), state(10), state(13))
	}
	lag := of(api.Latency, 20, 0)
	row(t, "P10.5", lag, 9, says{put(10, "abc"), "3"}, says{drain(), "abc"}, says{numbers(11, lag, 0, 0), "0"}, says{put(11, "d"), "1"}, says{take(29, 9), ""}, says{take(30, 9), "d"})
	bw := of(api.Bandwidth, 0, 3)
	row(t, "P10.5", bw, 9, says{put(10, "abcde"), "5"}, says{drain(), "abcde"}, says{put(10, "fghij"), "5"}, says{take(10, 9), "fgh"})
}

func TestCopyIsItsOwn(t *testing.T) {
	for _, x := range some() {
		p := pair(t, x, 3, 9, 10)
		p.steps(t, put(10, "abcdef"), take(10, 1), shut(11))
		other := &both{p.s.Copy(), p.m.own()}
		other.stands(t, "a copy")
		other.steps(t, force(12, "ghi"), take(13, 4), drain(), update(13, x, api.OK), state(20))
		p.stands(t, "its copy was changed")
		p.steps(t, state(11), take(11, 2), force(12, "xyz"), take(12, 9))
		other.stands(t, "what it was copied from was changed")
		p.steps(t, drain(), state(12))
	}
}

// R5, R6

func TestBytesAreTheirOwn(t *testing.T) {
	s := pair(t, api.Toxic{}, 0, 99, 0).s
	in := []byte("abcdef")
	s.Put(0, in)
	s.Force(0, in)
	if string(in) != "abcdef" {
		t.Errorf("R5: what is put becomes %q", in)
	}
	copy(in, "xxxxxx")
	first, other := s.Take(0, 3), s.Copy()
	got := string(first)
	copy(first, "yyy")
	_ = append(first, "zzzzzz"...)
	if b := s.Drain(); got != "abc" || string(b) != "defabcdef" {
		t.Errorf("R6: %q was taken, and %q drained", got, b)
	}
	b := other.Drain()
	_ = append(b[:2], "zzzzzz"...)
	other.Put(0, []byte("ghi"))
	if c := other.Take(0, 9); string(c) != "ghi" {
		t.Errorf("R6: behind Drain %q is taken", c)
	}
}

func TestTheSameCallsTellTheSame(t *testing.T) {
	for _, x := range append(some(), ends()...) {
		a, b := pair(t, x, 99, 50, 0).s, pair(t, x, 99, 50, 0).s
		for k := range 60 {
			if a.Put(k, []byte("abcde")) != b.Put(k, []byte("abcde")) || string(a.Take(k, 4)) != string(b.Take(k, 4)) || a.State(k) != b.State(k) {
				t.Fatalf("R7: of %+v the same calls tell different ones", x)
			}
		}
	}
}

// calls are things that may be done to a stage of x that began at 10.
func calls(x api.Toxic) []thing {
	y := x
	y.A, y.B = x.A+1, max(1, x.B)
	if x.Kind == api.Latency {
		y.B = x.B
	}
	if x.Kind > api.Slicer {
		y.B = 0
	}
	if x.Kind == api.Pass {
		y = api.Toxic{Name: "b"}
	}
	return []thing{
		put(10, "ab"), put(11, "cdefg"), put(13, "h"), force(10, "ijk"), force(12, "lmno"),
		take(9, 2), take(11, 3), take(12, 9), take(13, 0), take(16, 1),
		state(11), state(13), shut(10), shut(12), drain(), {kind: "copy"},
		update(11, y, api.OK), update(14, x, api.OK), update(19, of(api.Slow, -1, 0), api.ErrToxicPart),
	}
}

// goOn does all things in each order, so many steps on. Each one is done to a copy, which must leave what it was copied from.
func (p *both) goOn(t *testing.T, l []thing, steps int) {
	if steps == 0 {
		p.steps(t, take(14, 9), state(14), take(17, 9), state(17), drain())
		return
	}
	for _, x := range l {
		next := &both{p.s.Copy(), p.m.own()}
		next.step(t, x)
		next.goOn(t, l, steps-1)
	}
	p.stands(t, "its copies went on")
}

func TestEachRunOfThree(t *testing.T) {
	for _, x := range some() {
		pair(t, x, 1, 4, 10).goOn(t, calls(x), 3)
	}
}

// aTick is a tick by chance: mostly a little later than the clock, at times an edge.
func aTick(chance *rand.Rand, clock int) int {
	switch chance.Intn(40) {
	case 0:
		return clock + chance.Intn(1<<40)
	case 1:
		return edges()[chance.Intn(7)]
	case 2:
		return clock - chance.Intn(5)
	}
	return clock + chance.Intn(3)*chance.Intn(2)
}

// aThing is one by chance for a stage at that clock.
func aThing(chance *rand.Rand, t api.Toxic, clock int) thing {
	now, b := aTick(chance, clock), make([]byte, chance.Intn(9))
	for k := range b {
		b[k] = byte(chance.Intn(256))
	}
	switch chance.Intn(40) {
	case 0:
		return shut(now)
	case 1:
		return drain()
	case 2:
		return thing{kind: "copy"}
	case 3, 4:
		for _, x := range append(some(), ends()...) {
			if x.Kind == t.Kind && chance.Intn(3) == 0 {
				return update(now, x, api.OK)
			}
		}
	case 5:
		return update(now, of(api.Slicer, 0, 0), api.ErrToxicPart)
	case 6, 7, 8:
		return force(now, string(b))
	case 9, 10, 11:
		return state(now)
	case 12, 13:
		return take(now, chance.Intn(4)-2)
	}
	if chance.Intn(2) == 0 {
		return put(now, string(b))
	}
	return take(now, 1+chance.Intn(12))
}

func TestRunsByChance(t *testing.T) {
	chance := rand.New(rand.NewSource(10))
	for range 60 {
		for _, x := range append(some(), ends()...) {
			p := pair(t, x, chance.Uint64(), 1+chance.Intn(30), aTick(chance, 10))
			for range 80 {
				p.step(t, aThing(chance, x, p.m.clock))
			}
		}
	}
}

// P10.6

// moved is bytes that were put, or taken, at a tick.
type moved struct{ at, n int }

// flow puts and takes by chance, and tells what was taken, each Take for itself. It complains if that is not what was put, in order. Of at least late ticks each byte is taken behind its Put.
func flow(t *testing.T, chance *rand.Rand, x api.Toxic, late int) []moved {
	t.Helper()
	s := pair(t, x, chance.Uint64(), 200, 5).s
	var in, out []byte
	var when []int
	var gone []moved
	for now := 5; now < 400; now += chance.Intn(3) {
		b := make([]byte, chance.Intn(20))
		for k := range b {
			b[k] = byte(chance.Intn(256))
		}
		n := s.Put(now, b)
		in = append(in, b[:n]...)
		for range n {
			when = append(when, now)
		}
		c := s.Take(now, 1+chance.Intn(30))
		for k := range c {
			if put := when[len(out)+k]; now < put+late {
				t.Fatalf("P10.6: of %+v a byte of %d is taken at %d", x, put, now)
			}
		}
		out = append(out, c...)
		if !strings.HasPrefix(string(in), string(out)) {
			t.Fatalf("P10.6: of %+v what is taken is not what was put", x)
		}
		if s.Passed() != len(out) || s.Held()+len(out) != len(in) {
			t.Fatalf("P10.6: of %+v of %d bytes %d are taken, and %d held; Passed is %d", x, len(in), len(out), s.Held(), s.Passed())
		}
		gone = append(gone, moved{now, len(c)})
	}
	return gone
}

func TestFlowOfAll(t *testing.T) {
	chance := rand.New(rand.NewSource(61))
	for _, x := range some() {
		late := 0
		if x.Kind == api.Latency {
			late = x.A - x.B
		}
		for range 20 {
			flow(t, chance, x, late)
		}
	}
	for range 100 {
		a := chance.Intn(60)
		b := chance.Intn(a + 1)
		flow(t, chance, of(api.Latency, a, b), a-b)
	}
}

func TestWindowsOfBandwidth(t *testing.T) {
	chance := rand.New(rand.NewSource(62))
	for range 100 {
		x := of(api.Bandwidth, chance.Intn(9), 1+chance.Intn(25))
		full, _ := bucket.New(x.A, x.B, 5)
		l := flow(t, chance, x, 0)
		for k := range l {
			all := 0
			for _, y := range l[k:] {
				all += y.n
				if w := y.at - l[k].at; all > bucket.Most(full, w) {
					t.Fatalf("P10.6: of %+v %d bytes are taken from %d to %d", x, all, l[k].at, y.at)
				}
			}
		}
	}
}

func TestSlicesAndPauses(t *testing.T) {
	chance := rand.New(rand.NewSource(63))
	for range 100 {
		x, last, longest := of(api.Slicer, 1+chance.Intn(9), chance.Intn(6)), -99, 0
		for _, y := range flow(t, chance, x, 0) {
			if y.n > 0 && y.at < last+x.B || y.n > x.A {
				t.Fatalf("P10.6: of %+v %d are taken at %d, and some at %d", x, y.n, y.at, last)
			}
			if y.n > 0 {
				last, longest = y.at, max(longest, y.n)
			}
		}
		if longest != x.A {
			t.Errorf("P10.6: of %+v no slice is longer than %d", x, longest)
		}
	}
}

func TestLimitIsKept(t *testing.T) {
	chance := rand.New(rand.NewSource(64))
	for range 100 {
		x, all := of(api.Limit, chance.Intn(300), 0), 0
		for _, y := range flow(t, chance, x, 0) {
			all += y.n
		}
		if all != x.A {
			t.Errorf("P10.6: of %+v %d are taken", x, all)
		}
	}
}
