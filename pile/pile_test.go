package pile

import (
	"math"
	"slices"
	"testing"
)

// farOut has numbers at the ends of what an int may be, and near the bounds of narrower ones.
func farOut() []int {
	return []int{math.MinInt, math.MinInt + 1, -1 << 32, -1<<31 - 1, -1 << 31, -1 << 16, -1<<15 - 1, -129, -1, 0, 1, 128, 255, 256, 1 << 15, 1 << 16, 1<<31 - 1, 1 << 31, 1<<32 - 1, 1 << 32, 1<<32 + 5, 1<<53 + 1, math.MaxInt - 1, math.MaxInt}
}

// upTo has the numbers from, from+1 and so on, so many.
func upTo(from, many int) []int {
	l := make([]int, many)
	for k := range l {
		l[k] = from + k
	}
	return l
}

// model is a pile told plainly: the one on top stands first.
type model struct {
	room int
	list []int
	lost bool
}

func (m *model) put(l []int) int {
	kept := 0
	for _, v := range l {
		if len(m.list) >= m.room {
			m.lost = true
			continue
		}
		m.list = slices.Insert(m.list, 0, v)
		kept++
	}
	return kept
}

func (m *model) take() (int, bool) {
	if len(m.list) == 0 {
		return 0, false
	}
	v := m.list[0]
	m.list = slices.Delete(m.list, 0, 1)
	return v, true
}

// both is a pile and the model beside it: each call goes to both, and what they answer is held against each other.
type both struct {
	t *testing.T
	p *Pile
	m *model
}

// started makes both; room is what New is given, wanted what the model has.
func started(t *testing.T, room, wanted int) both {
	t.Helper()
	b := both{t, New(room), &model{room: wanted}}
	if b.p == nil {
		t.Fatalf("New(%d): nil", room)
	}
	b.same("New")
	return b
}

// same holds Len and Lost against the model; it is asked behind each call.
func (b both) same(what string) {
	b.t.Helper()
	if got := b.p.Len(); got != len(b.m.list) {
		b.t.Fatalf("%s: Len %d, not %d", what, got, len(b.m.list))
	}
	if got := b.p.Lost(); got != b.m.lost {
		b.t.Fatalf("%s: Lost %v, not %v", what, got, b.m.lost)
	}
}

func (b both) put(l ...int) {
	b.t.Helper()
	before := slices.Clone(l)
	got, want := b.p.Put(l...), b.m.put(l)
	if got != want {
		b.t.Fatalf("Put of %d: %d, not %d", len(l), got, want)
	}
	if !slices.Equal(l, before) {
		b.t.Fatalf("Put: the list became %v, was %v", l, before)
	}
	b.same("Put")
}

func (b both) take() {
	b.t.Helper()
	got, is := b.p.Take()
	want, wantIs := b.m.take()
	if got != want || is != wantIs {
		b.t.Fatalf("Take: %d %v, not %d %v", got, is, want, wantIs)
	}
	b.same("Take")
}

func (b both) found() {
	b.t.Helper()
	b.p.Found()
	b.m.lost = false
	b.same("Found")
}

func (b both) clear() {
	b.t.Helper()
	b.p.Clear()
	b.m.list, b.m.lost = nil, false
	b.same("Clear")
}

// drain takes all, and twice more.
func (b both) drain() {
	b.t.Helper()
	for range len(b.m.list) + 2 {
		b.take()
	}
}

// wantPut holds how many a pile keeps.
func wantPut(t *testing.T, p *Pile, want int, l ...int) {
	t.Helper()
	if got := p.Put(l...); got != want {
		t.Errorf("Put(%v): %d, not %d", l, got, want)
	}
}

func wantTake(t *testing.T, p *Pile, want int, wantIs bool) {
	t.Helper()
	if got, is := p.Take(); got != want || is != wantIs {
		t.Errorf("Take: %d %v, not %d %v", got, is, want, wantIs)
	}
}

// wantState holds Len and Lost.
func wantState(t *testing.T, p *Pile, length int, lost bool) {
	t.Helper()
	if got := p.Len(); got != length {
		t.Errorf("Len: %d, not %d", got, length)
	}
	if got := p.Lost(); got != lost {
		t.Errorf("Lost: %v, not %v", got, lost)
	}
}

// The chapter's example.
func TestExample(t *testing.T) {
	p := New(2)
	wantPut(t, p, 2, 5, 6, 7)
	wantTake(t, p, 6, true)
	wantState(t, p, 1, true)
}

// P801: New's room is what it is told, from 1 to 1,000.
func TestRoom(t *testing.T) {
	for room := 1; room <= 1000; room++ {
		p := New(room)
		wantState(t, p, 0, false)
		wantPut(t, p, room, upTo(7, room)...)
		wantState(t, p, room, false)
		wantPut(t, p, 0, 1)
		wantState(t, p, room, true)
	}
}

// P801: New's room is the nearer end where it is told less or more.
func TestRoomOfTheNearerEnd(t *testing.T) {
	for _, room := range append(farOut(), -5, -2, 2, 3, 999, 1000, 1001, 1002, 1024, 2000, 9999, 65536+3, 1<<32+7, -1<<32+7) {
		b := started(t, room, min(max(room, 1), 1000))
		b.put(upTo(1, 1500)...)
		b.drain()
		b.put(upTo(1, 1500)...)
	}
}

// P801: Put keeps what comes first, each on top of the one ahead of it, and no others.
func TestPutOfSo(t *testing.T) {
	for _, room := range []int{1, 2, 3, 7, 64, 1000} {
		for _, n := range []int{0, 1, 2, 3, 6, 7, 8, 63, 64, 65, 999, 1000, 1001, 1500} {
			b := started(t, room, room)
			b.put(upTo(10, n)...)
			b.drain()
		}
	}
}

// P801: what stands there already leaves only the rest of the room.
func TestPutOnTopOfOthers(t *testing.T) {
	for ahead := range 6 {
		for n := range 8 {
			b := started(t, 5, 5)
			b.put(upTo(100, ahead)...)
			b.put(upTo(200, n)...)
			b.put()
			b.put(300)
			b.drain()
		}
	}
}

// P801: when there is no room left, nothing is kept and nothing goes.
func TestPutWithoutRoom(t *testing.T) {
	p := New(3)
	wantPut(t, p, 3, 4, 5, 6)
	wantState(t, p, 3, false)
	wantPut(t, p, 0)
	wantState(t, p, 3, false)
	wantPut(t, p, 0, 7)
	wantPut(t, p, 0, 8, 9)
	wantState(t, p, 3, true)
	wantTake(t, p, 6, true)
	wantTake(t, p, 5, true)
	wantTake(t, p, 4, true)
	wantTake(t, p, 0, false)
}

// P801: any number is kept as it is, one that is there already too.
func TestAnyNumber(t *testing.T) {
	b := started(t, 1000, 1000)
	b.put(farOut()...)
	b.put(farOut()...)
	b.drain()
	for _, v := range farOut() {
		b.put(v)
		b.put(v, v)
		b.take()
	}
	b.drain()
}

// Rules: what is done to a list that was handed in changes nothing in the pile, and the other way round.
func TestListIsNotKept(t *testing.T) {
	p := New(6)
	l := make([]int, 3, 10)
	copy(l, []int{1, 2, 3})
	wantPut(t, p, 3, l...)
	l[0], l[1], l[2] = 70, 80, 90
	wantPut(t, p, 2, 4, 5)
	if got := l[:5]; !slices.Equal(got, []int{70, 80, 90, 0, 0}) {
		t.Errorf("behind Put the list is %v", got)
	}
	for _, want := range []int{5, 4, 3, 2, 1} {
		wantTake(t, p, want, true)
	}
	wantPut(t, p, 2, 6, 7)
	if got := l[:5]; !slices.Equal(got, []int{70, 80, 90, 0, 0}) {
		t.Errorf("behind Take and Put the list is %v", got)
	}
}

// P801: Take answers the one on top, which goes; behind the last there is none, however often it is asked.
func TestTake(t *testing.T) {
	p := New(1000)
	wantTake(t, p, 0, false)
	wantPut(t, p, 1000, upTo(0, 1000)...)
	for v := 999; v >= 0; v-- {
		wantState(t, p, v+1, false)
		wantTake(t, p, v, true)
	}
	for range 3 {
		wantTake(t, p, 0, false)
		wantState(t, p, 0, false)
	}
	wantPut(t, p, 1, 9)
	wantTake(t, p, 9, true)
}

// P801: behind Take there is room again for as many as went.
func TestRoomAgain(t *testing.T) {
	for room := 1; room <= 12; room++ {
		for gone := range room + 3 {
			b := started(t, room, room)
			b.put(upTo(0, room)...)
			for range gone {
				b.take()
			}
			b.put(upTo(50, gone)...)
			b.put(90)
			b.drain()
		}
	}
}

// P801: Lost is true from the first that is not kept on until Found or Clear, whatever else is called.
func TestLostStays(t *testing.T) {
	p := New(2)
	wantState(t, p, 0, false)
	wantPut(t, p, 0)
	wantState(t, p, 0, false)
	wantPut(t, p, 2, 1, 2)
	wantState(t, p, 2, false)
	wantPut(t, p, 0, 3)
	wantState(t, p, 2, true)
	wantTake(t, p, 2, true)
	wantState(t, p, 1, true)
	wantPut(t, p, 1, 4)
	wantState(t, p, 2, true)
	wantPut(t, p, 0)
	wantState(t, p, 2, true)
	wantTake(t, p, 4, true)
	wantTake(t, p, 1, true)
	wantTake(t, p, 0, false)
	wantState(t, p, 0, true)
	wantPut(t, p, 1, 5)
	wantState(t, p, 1, true)
}

// P801: a Take that finds none loses nothing.
func TestTakeLosesNothing(t *testing.T) {
	p := New(1)
	wantTake(t, p, 0, false)
	wantState(t, p, 0, false)
	wantPut(t, p, 1, 3)
	wantTake(t, p, 3, true)
	wantState(t, p, 0, false)
}

// P801: Found makes Lost false and keeps what is there, and the room too; one more that is not kept makes it true again.
func TestFound(t *testing.T) {
	p := New(3)
	p.Found()
	wantState(t, p, 0, false)
	wantPut(t, p, 3, 1, 2, 3, 4)
	for range 2 {
		wantState(t, p, 3, true)
		p.Found()
		wantState(t, p, 3, false)
		p.Found()
		wantState(t, p, 3, false)
		wantPut(t, p, 0, 9)
	}
	p.Found()
	for _, want := range []int{3, 2, 1} {
		wantTake(t, p, want, true)
	}
	wantPut(t, p, 3, 5, 6, 7)
	wantState(t, p, 3, false)
	wantPut(t, p, 0, 8)
	wantState(t, p, 3, true)
}

// P801: behind Clear there is none, nothing is Lost, and there is as much room as at first.
func TestClear(t *testing.T) {
	for _, room := range []int{1, 2, 5, 1000} {
		for _, n := range []int{0, 1, room / 2, room, room + 1, 2 * room} {
			b := started(t, room, room)
			b.put(upTo(20, n)...)
			b.clear()
			b.clear()
			b.take()
			b.put(upTo(3000, room)...)
			b.put(7)
			b.drain()
			b.clear()
			b.put(upTo(5000, room+1)...)
			b.drain()
		}
	}
}

// P801: Clear behind Takes, while Lost.
func TestClearWhenLost(t *testing.T) {
	p := New(2)
	wantPut(t, p, 2, 1, 2, 3)
	wantTake(t, p, 2, true)
	wantTake(t, p, 1, true)
	wantState(t, p, 0, true)
	p.Clear()
	wantState(t, p, 0, false)
	wantTake(t, p, 0, false)
	wantPut(t, p, 2, 4, 5)
	wantState(t, p, 2, false)
}

// Each pile is its own.
func TestPilesAreApart(t *testing.T) {
	p, q := New(2), New(2)
	wantPut(t, p, 2, 1, 2, 3)
	wantState(t, q, 0, false)
	wantPut(t, q, 1, 8)
	wantTake(t, p, 2, true)
	wantState(t, q, 1, false)
	q.Clear()
	wantState(t, p, 1, true)
	wantTake(t, p, 1, true)
	wantTake(t, q, 0, false)
}

// wantNothing holds that a pile keeps nothing and loses nothing.
func wantNothing(t *testing.T, p *Pile) {
	t.Helper()
	for range 2 {
		wantState(t, p, 0, false)
		wantTake(t, p, 0, false)
		wantPut(t, p, 0)
		wantPut(t, p, 0, 1)
		wantPut(t, p, 0, farOut()...)
		wantState(t, p, 0, false)
		wantTake(t, p, 0, false)
		p.Found()
		wantState(t, p, 0, false)
		p.Clear()
	}
}

// P801: a nil Pile answers 0 and false. Rules: a zero one is as a nil one.
func TestNilAndZero(t *testing.T) {
	wantNothing(t, nil)
	wantNothing(t, &Pile{})
	var l []int
	wantPut(t, New(1), 0, l...)
}

// P801: all calls mixed, as the model has them.
func TestMixed(t *testing.T) {
	seed := uint32(801)
	next := func(n int) int {
		seed = seed*1664525 + 1013904223
		return int(seed>>8) % n
	}
	for _, room := range []int{1, 2, 3, 5, 17, 100, 1000} {
		b := started(t, room, room)
		for range 3000 {
			switch k := next(40); {
			case k < 18:
				b.put(upTo(next(1<<20)-1<<19, next(room/3+3))...)
			case k < 36:
				for range next(room/3 + 3) {
					b.take()
				}
			case k < 38:
				b.found()
			case k == 38:
				b.put(farOut()[next(len(farOut()))])
			default:
				b.clear()
			}
		}
		b.drain()
	}
}
