package alarm

import (
	"fmt"
	"math"
	"math/rand"
	"slices"
	"sort"
	"testing"

	"chicane/api"
)

// made is new alarms, set for these ticks one after the other.
func made(t *testing.T, ticks ...int) *Alarms {
	t.Helper()
	a := New()
	if a == nil {
		t.Fatal("P6.1: New is nil")
	}
	for i, at := range ticks {
		if id, e := a.Set(at); id != i+1 || e != api.OK {
			t.Fatalf("P6.1: Set(%d), the call %d, is %d, %d", at, i+1, id, e)
		}
	}
	return a
}

// inOrder is l by the words: the lesser tick first, of one tick the lesser id.
func inOrder(l []Due) []Due {
	l = slices.Clone(l)
	sort.Slice(l, func(i, j int) bool {
		if l[i].At != l[j].At {
			return l[i].At < l[j].At
		}
		return l[i].Id < l[j].Id
	})
	return l
}

// isHeap tells by the words of the chapter whether the array is a heap, and the map says where each stands.
func isHeap(a *Alarms) bool {
	behind := func(k, below int) bool {
		if below >= len(a.heap) {
			return false
		}
		d, e := a.heap[k], a.heap[below]
		return d.At > e.At || d.At == e.At && d.Id > e.Id
	}
	for k, d := range a.heap {
		if place, is := a.place[d.Id]; !is || place != k || behind(k, 2*k+1) || behind(k, 2*k+2) {
			return false
		}
	}
	return len(a.place) == len(a.heap)
}

// short is as much of l as is worth telling.
func short(l []Due) []Due { return l[:min(len(l), 20)] }

// stands complains if not just these are set; want is in order.
func stands(t *testing.T, what string, a *Alarms, want []Due) {
	t.Helper()
	if !a.Check() || !isHeap(a) {
		t.Fatalf("P6.3: %s: Check is %t, of %d; the heap is %v.., with %d places", what, a.Check(), a.Len(), short(a.heap), len(a.place))
	}
	if a.Len() != len(want) {
		t.Fatalf("P6.1: %s: Len is %d, not %d", what, a.Len(), len(want))
	}
	if l := a.List(); !slices.Equal(l, want) {
		t.Fatalf("P6.2: %s: List is %v.., not %v..", what, short(l), short(want))
	}
	next, is := a.Next()
	if is != (len(want) > 0) || is && next != want[0] || !is && next != (Due{}) {
		t.Fatalf("P6.2: %s: Next is %v, %t, of %v..", what, next, is, short(want))
	}
	for _, d := range want {
		if at, is := a.When(d.Id); at != d.At || !is {
			t.Fatalf("P6.1: %s: When(%d) is %d, %t, not %d", what, d.Id, at, is, d.At)
		}
	}
}

// notSet complains if this id answers as if it were set.
func notSet(t *testing.T, a *Alarms, id int) {
	t.Helper()
	want := a.List()
	if at, is := a.When(id); at != 0 || is {
		t.Errorf("P6.1: not set: When(%d) is %d, %t", id, at, is)
	}
	if a.Cancel(id) {
		t.Errorf("P6.1: not set: Cancel(%d) is true", id)
	}
	if a.Move(id, 5) {
		t.Errorf("P6.1: not set: Move(%d, 5) is true", id)
	}
	stands(t, fmt.Sprint("asked for ", id), a, want)
}

// wrongTicks are those that none can be set for.
func wrongTicks() []int {
	return []int{-1, -2, -api.MaxTick, math.MinInt, api.MaxTick + 1, api.MaxTick + 2, 2 * api.MaxTick, 1 << 62, math.MaxInt}
}

// P6.1

func TestNew(t *testing.T) {
	a := made(t)
	stands(t, "new", a, nil)
	for _, id := range []int{0, 1, -1, 2, math.MaxInt, math.MinInt} {
		notSet(t, a, id)
	}
	if l := a.Take(math.MaxInt); len(l) != 0 {
		t.Error("P6.2: Take of none is", l)
	}
}

func TestNewOnesShareNothing(t *testing.T) {
	a, b := made(t, 1, 2), made(t, 3)
	stands(t, "the first", a, []Due{{1, 1}, {2, 2}})
	stands(t, "the second", b, []Due{{3, 1}})
}

func TestSet(t *testing.T) {
	for _, x := range []struct {
		ticks []int
		want  []Due
	}{
		{[]int{0}, []Due{{0, 1}}},
		{[]int{1}, []Due{{1, 1}}},
		{[]int{api.MaxTick - 1}, []Due{{api.MaxTick - 1, 1}}},
		{[]int{api.MaxTick}, []Due{{api.MaxTick, 1}}},
		{[]int{api.MaxTick, 0}, []Due{{0, 2}, {api.MaxTick, 1}}},
		{[]int{1, 2, 3}, []Due{{1, 1}, {2, 2}, {3, 3}}},
		{[]int{3, 2, 1}, []Due{{1, 3}, {2, 2}, {3, 1}}},
		{[]int{7, 7, 7, 7}, []Due{{7, 1}, {7, 2}, {7, 3}, {7, 4}}},
		{[]int{5, 3, 5, 3}, []Due{{3, 2}, {3, 4}, {5, 1}, {5, 3}}},
		{[]int{0, api.MaxTick, 0, api.MaxTick}, []Due{{0, 1}, {0, 3}, {api.MaxTick, 2}, {api.MaxTick, 4}}},
		{[]int{1 << 32, 1, 1<<32 + 1, 1 << 31}, []Due{{1, 2}, {1 << 31, 4}, {1 << 32, 1}, {1<<32 + 1, 3}}},
	} {
		stands(t, fmt.Sprint("set for ", x.ticks), made(t, x.ticks...), x.want)
	}
}

func TestSetRefuses(t *testing.T) {
	for _, ticks := range [][]int{nil, {0}, {5, 3, 5}} {
		for _, at := range wrongTicks() {
			a := made(t, ticks...)
			want := a.List()
			if id, e := a.Set(at); id != 0 || e != api.ErrArg {
				t.Errorf("P6.1: Set(%d) is %d, %d", at, id, e)
			}
			stands(t, "refused", a, want)
			if id, e := a.Set(4); id != len(ticks)+1 || e != api.OK {
				t.Errorf("R2: Set(%d) was refused, and the next id is %d, %d", at, id, e)
			}
		}
	}
}

// full is alarms of which as many are set as may be.
func full(t *testing.T, tick func(i int) int) *Alarms {
	t.Helper()
	a := made(t)
	for i := range api.MaxAlarms {
		if id, e := a.Set(tick(i)); id != i+1 || e != api.OK {
			t.Fatalf("P6.1: Set, the call %d, is %d, %d", i+1, id, e)
		}
		if a.Len() != i+1 {
			t.Fatalf("P6.1: Len is %d, not %d", a.Len(), i+1)
		}
	}
	return a
}

func TestSetWhenFull(t *testing.T) {
	a := full(t, func(i int) int { return 10 * i })
	want := a.List()
	for _, at := range []int{0, 1, 5, api.MaxTick} {
		if id, e := a.Set(at); id != 0 || e != api.ErrAlarmFull {
			t.Errorf("P6.1: full: Set(%d) is %d, %d", at, id, e)
		}
	}
	for _, at := range wrongTicks() {
		if id, e := a.Set(at); id != 0 || e != api.ErrArg {
			t.Errorf("R1: full: Set(%d) is %d, %d: the error named first is ErrArg", at, id, e)
		}
	}
	stands(t, "full", a, want)
	if !a.Move(7, 3) || !a.Move(7, 60) {
		t.Error("P6.1: full: Move is false")
	}
	stands(t, "full, moved there and back", a, want)
	if !a.Cancel(100) {
		t.Error("P6.1: full: Cancel is false")
	}
	if id, e := a.Set(1); id != api.MaxAlarms+1 || e != api.OK {
		t.Errorf("P6.1: one is cancelled: Set is %d, %d", id, e)
	}
	if id, e := a.Set(1); id != 0 || e != api.ErrAlarmFull {
		t.Errorf("P6.1: full again: Set is %d, %d", id, e)
	}
	if l := a.Take(10); !slices.Equal(l, []Due{{0, 1}, {1, api.MaxAlarms + 1}, {10, 2}}) {
		t.Error("P6.2: full: Take is", l)
	}
	for i := range 3 {
		if id, e := a.Set(2); id != api.MaxAlarms+2+i || e != api.OK {
			t.Errorf("P6.1: three are taken: Set is %d, %d", id, e)
		}
	}
	if id, e := a.Set(2); id != 0 || e != api.ErrAlarmFull {
		t.Errorf("P6.1: full again: Set is %d, %d", id, e)
	}
}

func TestIdsGoOn(t *testing.T) {
	a := made(t)
	for i := range 20000 {
		id, e := a.Set(i % 7)
		if id != i+1 || e != api.OK {
			t.Fatalf("P6.1: Set, the call %d, is %d, %d", i+1, id, e)
		}
		switch i % 4 {
		case 0:
			a.Cancel(id)
		case 1:
			a.Move(id, 3)
		case 3:
			a.Take(6)
		}
	}
	stands(t, "set and taken many times", a, nil)
}

func TestCancel(t *testing.T) {
	ticks := []int{5, 3, 5, 9, 0, api.MaxTick, 3}
	for id := range len(ticks) + 1 {
		if id == 0 {
			continue
		}
		a := made(t, ticks...)
		want := slices.DeleteFunc(a.List(), func(d Due) bool { return d.Id == id })
		if !a.Cancel(id) {
			t.Errorf("P6.1: Cancel(%d) is false", id)
		}
		stands(t, fmt.Sprintf("Cancel(%d)", id), a, want)
		notSet(t, a, id)
		if l := a.Take(api.MaxTick); !slices.Equal(l, want) {
			t.Errorf("P6.3: Cancel(%d), and Take is %v", id, l)
		}
	}
}

func TestNotSet(t *testing.T) {
	a := made(t, 5, 3, 5, 9, 0)
	a.Cancel(4)
	a.Take(3)
	stands(t, "some are gone", a, []Due{{5, 1}, {5, 3}})
	for _, id := range []int{0, -1, -3, math.MinInt, 2, 4, 5, 6, 7, 1<<32 + 1, 1<<32 + 3, math.MaxInt} {
		notSet(t, a, id)
	}
}

func TestMove(t *testing.T) {
	ticks := []int{5, 3, 5, 9, 0, 7}
	for id := 1; id <= len(ticks); id++ {
		for _, at := range []int{0, 1, 2, 3, 4, 5, 6, 7, 8, 9, 10, api.MaxTick - 1, api.MaxTick} {
			a := made(t, ticks...)
			want := a.List()
			for i := range want {
				if want[i].Id == id {
					want[i].At = at
				}
			}
			if !a.Move(id, at) {
				t.Errorf("P6.1: Move(%d, %d) is false", id, at)
			}
			stands(t, fmt.Sprintf("Move(%d, %d)", id, at), a, inOrder(want))
			if next, e := a.Set(1); next != len(ticks)+1 || e != api.OK {
				t.Errorf("P6.1: Move(%d, %d), and Set is %d, %d", id, at, next, e)
			}
		}
	}
}

func TestMoveRefuses(t *testing.T) {
	for _, at := range wrongTicks() {
		a := made(t, 5, 3, 5)
		want := a.List()
		for id := -1; id < 6; id++ {
			if a.Move(id, at) {
				t.Errorf("P6.1: Move(%d, %d) is true", id, at)
			}
		}
		stands(t, fmt.Sprint("moved to ", at), a, want)
	}
}

func TestMovedAmongThoseOfOneTick(t *testing.T) {
	a := made(t, 7, 7, 7, 9, 2)
	if !a.Move(2, 8) || !a.Move(4, 7) || !a.Move(2, 7) || !a.Move(5, 7) {
		t.Error("P6.1: Move is false")
	}
	if l := a.Take(7); !slices.Equal(l, []Due{{7, 1}, {7, 2}, {7, 3}, {7, 4}, {7, 5}}) {
		t.Error("P6.3: of one tick, Take is", l)
	}
}

// P6.2

func TestExample(t *testing.T) {
	a := made(t, 5, 3, 5)
	if !a.Cancel(1) {
		t.Error("P6.1: Cancel(1) is false")
	}
	if l := a.Take(9); !slices.Equal(l, []Due{{3, 2}, {5, 3}}) {
		t.Error("P6.2: Take(9) is", l)
	}
}

func TestNext(t *testing.T) {
	a := made(t, 5, 3, 5, 3, 0)
	for _, want := range []Due{{0, 5}, {3, 2}, {3, 4}, {5, 1}, {5, 3}} {
		for range 2 {
			if d, is := a.Next(); d != want || !is {
				t.Errorf("P6.2: Next is %v, %t, not %v", d, is, want)
			}
		}
		a.Cancel(want.Id)
	}
	if d, is := a.Next(); d != (Due{}) || is {
		t.Errorf("P6.2: Next of none is %v, %t", d, is)
	}
}

func TestTake(t *testing.T) {
	ticks := []int{5, 3, 5, api.MaxTick, 0, 3, 9}
	whole := []Due{{0, 5}, {3, 2}, {3, 6}, {5, 1}, {5, 3}, {9, 7}, {api.MaxTick, 4}}
	for _, x := range []struct{ now, want int }{
		{math.MinInt, 0}, {-api.MaxTick, 0}, {-1, 0}, {0, 1}, {1, 1}, {2, 1}, {3, 3}, {4, 3}, {5, 5}, {6, 5}, {8, 5}, {9, 6}, {10, 6},
		{api.MaxTick - 1, 6}, {api.MaxTick, 7}, {api.MaxTick + 1, 7}, {math.MaxInt, 7},
	} {
		a := made(t, ticks...)
		if l := a.Take(x.now); !slices.Equal(l, whole[:x.want]) {
			t.Errorf("P6.2: Take(%d) is %v", x.now, l)
		}
		stands(t, fmt.Sprintf("Take(%d)", x.now), a, whole[x.want:])
		for _, d := range whole[:x.want] {
			notSet(t, a, d.Id)
		}
		if l := a.Take(x.now); len(l) != 0 {
			t.Errorf("P6.3: Take(%d) again is %v", x.now, l)
		}
		if l := a.Take(math.MaxInt); !slices.Equal(l, whole[x.want:]) {
			t.Errorf("P6.2: Take of the others is %v", l)
		}
		stands(t, "all are taken", a, nil)
	}
}

func TestTickInThePastMayBeSet(t *testing.T) {
	a := made(t, 5, 9)
	a.Take(7)
	if id, e := a.Set(2); id != 3 || e != api.OK {
		t.Errorf("P6.1: Set of a tick that was taken is %d, %d", id, e)
	}
	if l := a.Take(3); !slices.Equal(l, []Due{{2, 3}}) {
		t.Error("P6.2: Take of a lesser tick is", l)
	}
	stands(t, "taken", a, []Due{{9, 2}})
}

func TestListChangesNothing(t *testing.T) {
	a := made(t, 9, 8, 7, 6, 5, 4, 3, 2, 1)
	heap := slices.Clone(a.heap)
	first, second := a.List(), a.List()
	if !slices.Equal(first, second) || !slices.Equal(heap, a.heap) {
		t.Errorf("P6.2: List is %v, and then %v; the heap was %v, and is %v", first, second, heap, a.heap)
	}
}

func TestCheckTellsWhatDoesNotHold(t *testing.T) {
	ticks := []int{0, 1, 1, 3, 3, 4, 4, 6, 6, 7}
	for _, x := range []struct {
		name  string
		from  int // the first place where it is to be told
		spoil func(a *Alarms, k int)
	}{
		{"a tick is less than the one above", 1, func(a *Alarms, k int) { a.heap[k].At = a.heap[(k-1)/2].At - 1 }},
		{"one has changed places with the one above", 1, func(a *Alarms, k int) { exchange(a, k, (k-1)/2) }},
		{"a place is another one", 0, func(a *Alarms, k int) { a.place[a.heap[k].Id]++ }},
		{"a place is missing", 0, func(a *Alarms, k int) { delete(a.place, a.heap[k].Id) }},
		{"a place is another id's", 0, func(a *Alarms, k int) { delete(a.place, a.heap[k].Id); a.place[99] = k }},
		{"a place is too many", 0, func(a *Alarms, k int) { a.place[99] = k }},
		{"one is there twice", 0, func(a *Alarms, k int) { a.heap = append(a.heap, a.heap[k]) }},
	} {
		for k := x.from; k < len(ticks); k++ {
			a := made(t, ticks...)
			if !a.Check() {
				t.Fatal("P6.2: Check is false")
			}
			x.spoil(a, k)
			if a.Check() {
				t.Errorf("P6.2: %s, at %d: Check is true; the heap is %v, the places are %v", x.name, k, a.heap, a.place)
			}
		}
	}
	twins := made(t, 5, 5)
	exchange(twins, 0, 1)
	if twins.Check() {
		t.Error("P6.2: of one tick the later one is above: Check is true")
	}
}

// exchange puts each of two into the other one's place, and the map says so.
func exchange(a *Alarms, j, k int) {
	a.heap[j], a.heap[k] = a.heap[k], a.heap[j]
	a.place[a.heap[j].Id], a.place[a.heap[k].Id] = j, k
}

func TestCopy(t *testing.T) {
	for _, ticks := range [][]int{nil, {5}, {5, 3, 5, 9, 0}} {
		a := made(t, ticks...)
		want := a.List()
		c := a.Copy()
		if c == nil || c == a {
			t.Fatal("P6.2: the copy is nil, or the alarms themselves")
		}
		stands(t, "the copy", c, want)
		if id, e := c.Set(4); id != len(ticks)+1 || e != api.OK {
			t.Errorf("P6.2: the copy's Set is %d, %d", id, e)
		}
		changed := inOrder(append(slices.Clone(want), Due{4, len(ticks) + 1}))
		stands(t, "the copy, set", c, changed)
		stands(t, "the alarms, their copy set", a, want)
		notSet(t, a, len(ticks)+1)
		for i := range 3 {
			if id, e := a.Set(1); id != len(ticks)+1+i || e != api.OK {
				t.Errorf("P6.2: Set, the copy set, is %d, %d", id, e)
			}
		}
		a.Move(1, 100)
		a.Cancel(2)
		stands(t, "the copy, its alarms changed", c, changed)
		c.Take(math.MaxInt)
		if a.Len() != len(ticks)+2 {
			t.Errorf("P6.2: the copy is taken, and Len is %d", a.Len())
		}
	}
}

func TestCopyKeepsTheIdToCome(t *testing.T) {
	a := made(t, 1, 2, 3)
	a.Take(9)
	c := a.Copy().Copy()
	stands(t, "the copy of none", c, nil)
	if id, e := c.Set(6); id != 4 || e != api.OK {
		t.Errorf("P6.2: the copy's Set is %d, %d", id, e)
	}
	stands(t, "the copy, set", c, []Due{{6, 4}})
	stands(t, "the alarms", a, nil)
}

func TestCopyIsFullToo(t *testing.T) {
	a := full(t, func(i int) int { return i % 50 })
	c := a.Copy()
	if id, e := c.Set(1); id != 0 || e != api.ErrAlarmFull {
		t.Errorf("P6.2: the full copy's Set is %d, %d", id, e)
	}
	c.Take(100)
	if c.Len() != 0 || a.Len() != api.MaxAlarms {
		t.Errorf("P6.2: the copy has %d, the alarms %d", c.Len(), a.Len())
	}
	if id, e := a.Set(1); id != 0 || e != api.ErrAlarmFull {
		t.Errorf("P6.2: Set, the copy taken, is %d, %d", id, e)
	}
}

func TestCopiesShareNothing(t *testing.T) {
	a := made(t, 5, 6, 7)
	first, second := a.Copy(), a.Copy()
	a.Set(1)
	first.Set(2)
	second.Set(3)
	stands(t, "the alarms", a, []Due{{1, 4}, {5, 1}, {6, 2}, {7, 3}})
	stands(t, "the first copy", first, []Due{{2, 4}, {5, 1}, {6, 2}, {7, 3}})
	stands(t, "the second copy", second, []Due{{3, 4}, {5, 1}, {6, 2}, {7, 3}})
}

// P6.3

// heaps tells all arrays of the ticks 1, 3, 5 .. (n of them) that are heaps.
func heaps(n int, tell func(ticks []int)) {
	var ticks []int
	var fill func()
	fill = func() {
		k := len(ticks)
		if k == n {
			tell(ticks)
			return
		}
		for at := 1; at < 2*n; at += 2 {
			if slices.Contains(ticks, at) || k > 0 && at < ticks[(k-1)/2] {
				continue
			}
			ticks = append(ticks, at)
			fill()
			ticks = ticks[:k]
		}
	}
	fill()
}

// TestAllHeaps does each thing at each place of all heaps of up to eight.
func TestAllHeaps(t *testing.T) {
	for n := range 9 {
		count := 0
		heaps(n, func(ticks []int) {
			count++
			a := made(t, ticks...)
			for k, at := range ticks {
				if a.heap[k] != (Due{at, k + 1}) {
					t.Fatalf("P6.3: set for %v, the heap is %v", ticks, a.heap)
				}
			}
			for at := range 2*n + 2 {
				for id := range n + 2 {
					runBoth(t, a, thing{"move", id, at})
				}
				runBoth(t, a, thing{"set", 0, at})
				runBoth(t, a, thing{"take", 0, at})
			}
			for id := range n + 2 {
				runBoth(t, a, thing{"cancel", id, 0})
			}
		})
		if want := []int{1, 1, 1, 2, 3, 8, 20, 80, 210}[n]; count != want {
			t.Errorf("of %d there are %d heaps, not %d", n, count, want)
		}
	}
}

// runBoth does one thing to a copy of a, and to what it is by the words.
func runBoth(t *testing.T, a *Alarms, x thing) {
	t.Helper()
	b := &both{a: a.Copy(), row: a.List(), last: a.Len()}
	b.step(t, x)
}

// both is alarms, and beside them which they are by the words: a row, in order.
type both struct {
	a    *Alarms
	row  []Due
	last int
}

// thing is one that may be done.
type thing struct {
	kind   string
	id, at int
}

// step does one thing to both, and complains if they tell different ones.
func (b *both) step(t *testing.T, x thing) {
	t.Helper()
	k := slices.IndexFunc(b.row, func(d Due) bool { return d.Id == x.id })
	fits := x.at >= 0 && x.at <= api.MaxTick
	told, want := "", ""
	switch x.kind {
	case "set":
		id, e := b.a.Set(x.at)
		told, want = fmt.Sprint(id, e), fmt.Sprint(0, api.ErrArg)
		if fits && len(b.row) == api.MaxAlarms {
			want = fmt.Sprint(0, api.ErrAlarmFull)
		} else if fits {
			b.last++
			b.row = inOrder(append(b.row, Due{x.at, b.last}))
			want = fmt.Sprint(b.last, api.OK)
		}
	case "cancel":
		told, want = fmt.Sprint(b.a.Cancel(x.id)), fmt.Sprint(k >= 0)
		if k >= 0 {
			b.row = slices.Delete(b.row, k, k+1)
		}
	case "move":
		told, want = fmt.Sprint(b.a.Move(x.id, x.at)), fmt.Sprint(k >= 0 && fits)
		if k >= 0 && fits {
			b.row[k].At = x.at
			b.row = inOrder(b.row)
		}
	case "when":
		at, is := b.a.When(x.id)
		told, want = fmt.Sprint(at, is), fmt.Sprint(0, false)
		if k >= 0 {
			want = fmt.Sprint(b.row[k].At, true)
		}
	case "take":
		due := 0
		for due < len(b.row) && b.row[due].At <= x.at {
			due++
		}
		told, want = fmt.Sprint(b.a.Take(x.at)), fmt.Sprint(b.row[:due])
		b.row = b.row[due:]
	case "copy":
		b.a = b.a.Copy()
	}
	if told != want {
		t.Fatalf("P6.3: %v tells %.300s, not %.300s", x, told, want)
	}
	stands(t, fmt.Sprint(x), b.a, b.row)
}

// things are those that differ, of a few alarms.
func things() []thing {
	l := []thing{{"copy", 0, 0}, {"set", 0, -1}, {"take", 0, -1}, {"move", 1, -1}}
	for at := range 3 {
		l = append(l, thing{"set", 0, at}, thing{"take", 0, at}, thing{"cancel", at + 1, 0})
		for id := range 3 {
			l = append(l, thing{"move", id + 1, at})
		}
	}
	return l
}

func TestAllOfFourThings(t *testing.T) {
	l := things()
	for a := range l {
		for b := range l {
			for c := range l {
				for d := range l {
					x := &both{a: made(t)}
					for _, i := range []int{a, b, c, d} {
						x.step(t, l[i])
					}
				}
			}
		}
	}
}

// someThing is a thing by chance, of alarms of which so many were set, for ticks below ticks.
func someThing(chance *rand.Rand, last, ticks int) thing {
	id, at := 1+chance.Intn(last+1), chance.Intn(ticks)
	switch n := chance.Intn(100); {
	case n < 45:
		return thing{"set", 0, at}
	case n < 60:
		return thing{"cancel", id, 0}
	case n < 85:
		return thing{"move", id, at}
	case n < 90:
		return thing{"when", id, 0}
	case n < 95:
		return thing{"take", 0, at / 3}
	case n < 96:
		return thing{"take", 0, at}
	case n < 98:
		return thing{"copy", 0, 0}
	}
	return thing{[]string{"set", "move"}[chance.Intn(2)], id, wrongTicks()[chance.Intn(len(wrongTicks()))]}
}

func TestThingsByChance(t *testing.T) {
	chance := rand.New(rand.NewSource(61))
	for _, ticks := range []int{1, 2, 3, 10, 100, 1000, 1 << 33, api.MaxTick + 1} {
		for range 20 {
			b := &both{a: made(t)}
			for range 300 {
				b.step(t, someThing(chance, b.last, ticks))
			}
		}
	}
}

func TestManyThingsWhenNearlyFull(t *testing.T) {
	chance := rand.New(rand.NewSource(62))
	for _, ticks := range []int{5, api.MaxTick + 1} {
		b := &both{a: full(t, func(int) int { return chance.Intn(ticks) }), last: api.MaxAlarms}
		b.row = b.a.List()
		for range 60 {
			b.step(t, someThing(chance, b.last, ticks))
			b.step(t, thing{"set", 0, chance.Intn(ticks)})
		}
	}
}

// TestEachIsTakenOnce: of all that were set, each is taken, or cancelled, once.
func TestEachIsTakenOnce(t *testing.T) {
	chance := rand.New(rand.NewSource(63))
	a := made(t)
	gone, last := map[int]int{}, 0
	take := func(now int) {
		before := Due{At: -1}
		for _, d := range a.Take(now) {
			if d.At > now || d.At < before.At || d.At == before.At && d.Id <= before.Id {
				t.Fatalf("P6.3: Take(%d) tells %v behind %v", now, d, before)
			}
			gone[d.Id]++
			before = d
		}
	}
	for now := range 3000 {
		for range chance.Intn(8) {
			last, _ = a.Set(now + chance.Intn(200))
		}
		if id := 1 + chance.Intn(last+1); a.Cancel(id) {
			gone[id]++
		}
		a.Move(1+chance.Intn(last+1), now+chance.Intn(200))
		take(now)
	}
	take(api.MaxTick)
	if a.Len() != 0 || len(gone) != last {
		t.Errorf("P6.3: %d were set; %d are gone, and %d are set", last, len(gone), a.Len())
	}
	for id, times := range gone {
		if times != 1 {
			t.Errorf("P6.3: %d was told %d times", id, times)
		}
	}
}

// R6, R7

func TestAnswersAreTheCallers(t *testing.T) {
	a := made(t, 9, 8, 7, 6, 5, 4, 3, 2, 1)
	listed, taken := a.List(), a.Take(3)
	want := a.List()
	for _, told := range [][]Due{a.List(), a.List(), a.Take(-1), a.Copy().List(), a.Copy().Take(6)} {
		clear(told[:cap(told)])
	}
	stands(t, "answers are cleared", a, want)
	a.Take(5)
	for range 9 {
		a.Set(0)
	}
	if !slices.Equal(taken, []Due{{1, 9}, {2, 8}, {3, 7}}) || len(listed) != 9 || !slices.Equal(listed[3:], want) {
		t.Errorf("R6: answers became %v, %v", listed, taken)
	}
	all := made(t, 3, 2, 1)
	whole := all.Take(9)
	all.Set(7)
	clear(whole[:cap(whole)])
	stands(t, "what was taken is cleared", all, []Due{{7, 4}})
}

func TestSameCallsTellTheSame(t *testing.T) {
	run := func() string {
		chance := rand.New(rand.NewSource(64))
		a, told := made(t), ""
		for i := range 2000 {
			a.Set(chance.Intn(40))
			a.Move(1+chance.Intn(i+1), chance.Intn(40))
			a.Cancel(1 + chance.Intn(i+1))
			if i%50 == 0 {
				told += fmt.Sprint(a.List(), a.Take(chance.Intn(20)))
			}
		}
		return told
	}
	if first, second := run(), run(); first != second {
		t.Error("R7: the same calls tell something else")
	}
}
