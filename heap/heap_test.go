package heap

import (
	"math"
	"slices"
	"testing"

	"besom/api"
	"besom/shape"
)

const base = api.HeapBase

// sizes has each class's words of a slot, written out by hand.
func sizes() []int { return []int{1, 2, 3, 4, 6, 8, 12, 16} }

// slots has each class's number of slots, written out by hand.
func slots() []int { return []int{32, 16, 10, 8, 5, 4, 2, 2} }

// classOf has the class of each number of fields, from 0 on, written out by hand.
func classOf() []int { return []int{-1, 0, 1, 2, 3, 4, 4, 5, 5, 6, 6, 6, 6, 7, 7, 7, 7} }

// ints is a shape of so many numbers.
func ints(n int) api.Shape {
	s := api.Shape{Fields: make([]int, n)}
	for k := range s.Fields {
		s.Fields[k] = api.Int
	}
	return s
}

// ladder has the shapes of 1 to 16 fields: the shape k has k fields and one.
func ladder() []api.Shape {
	var l []api.Shape
	for n := 1; n <= 16; n++ {
		l = append(l, ints(n))
	}
	return l
}

// farOut has numbers that are no class, no page, no field, no shape and no address.
func farOut() []int {
	return []int{-1, -2, -16, -32, -64, 64, 65, 128, 2048, 1 << 32, -1 << 32, math.MaxInt, math.MaxInt - 1, math.MinInt, math.MinInt + 1, math.MinInt + base, math.MinInt + base + 32}
}

// outside has addresses that lie outside of a heap of so many pages.
func outside(pages int) []int {
	end := base + 32*pages
	return append(farOut(), 0, 1, 31, 32, base>>5, base-1, base-2, base-32, base-33, -base, -base-1, end, end+1, end+31, end+32, end+2048, 2*base, base+1<<32, base-1<<32, api.StackBase)
}

// thing is an object of the model.
type thing struct {
	addr, shape, serial, color int
	fields                     []int
}

// model is a heap told plainly: its things are a list, in no order.
type model struct {
	shapes        []int // how many fields each has
	class         []int // of each page; -1: none
	things        []*thing
	serial, given int
}

func modelOf(pages int, shapes []api.Shape) *model {
	m := &model{class: make([]int, pages)}
	for k := range m.class {
		m.class[k] = -1
	}
	for _, s := range shapes {
		m.shapes = append(m.shapes, len(s.Fields))
	}
	return m
}

// at tells what begins at an address.
func (m *model) at(addr int) *thing {
	for _, o := range m.things {
		if o.addr == addr {
			return o
		}
	}
	return nil
}

// around tells in whose slot a word lies.
func (m *model) around(addr int) *thing {
	for _, o := range m.things {
		for w := range sizes()[classOf()[len(o.fields)]] {
			if o.addr+w == addr {
				return o
			}
		}
	}
	return nil
}

// on tells the things of a page, by address.
func (m *model) on(k int) []*thing {
	var l []*thing
	for w := range 32 {
		if o := m.at(base + 32*k + w); o != nil {
			l = append(l, o)
		}
	}
	return l
}

// all tells the things of all pages, by address.
func (m *model) all() []*thing {
	var l []*thing
	for k := range m.class {
		l = append(l, m.on(k)...)
	}
	return l
}

func (m *model) fresh(c int) bool {
	k := slices.Index(m.class, -1)
	if c < 0 || c > 7 || k < 0 {
		return false
	}
	m.class[k] = c
	return true
}

func (m *model) alloc(s int, black bool) (int, api.Errno) {
	if s < 0 || s >= len(m.shapes) {
		return 0, api.ErrPlace
	}
	c := classOf()[m.shapes[s]]
	for k, got := range m.class {
		if got != c {
			continue
		}
		for slot := range slots()[c] {
			addr := base + 32*k + slot*sizes()[c]
			if m.at(addr) != nil {
				continue
			}
			m.serial++
			m.given += m.shapes[s]
			o := &thing{addr: addr, shape: s, serial: m.serial, fields: make([]int, m.shapes[s])}
			if black {
				o.color = 2
			}
			m.things = append(m.things, o)
			return addr, api.OK
		}
	}
	return 0, api.ErrFull
}

func (m *model) store(addr, field, v int) bool {
	o := m.at(addr)
	if o == nil || field < 0 || field >= len(o.fields) {
		return false
	}
	o.fields[field] = v
	return true
}

func (m *model) turn(addr, from, to int) bool {
	o := m.at(addr)
	if o == nil || o.color != from {
		return false
	}
	o.color = to
	return true
}

func (m *model) sweep(k int) int {
	if k < 0 || k >= len(m.class) || m.class[k] < 0 {
		return 0
	}
	gone := 0
	for _, o := range m.on(k) {
		if o.color != 0 {
			o.color = 0
			continue
		}
		m.things = slices.DeleteFunc(m.things, func(x *thing) bool { return x == o })
		gone++
	}
	if len(m.on(k)) == 0 {
		m.class[k] = -1
	}
	return gone
}

// both is a heap and the model beside it: each call goes to both, and what they answer is held against each other.
type both struct {
	t *testing.T
	h *Heap
	m *model
}

func started(t *testing.T, pages int, shapes ...api.Shape) both {
	t.Helper()
	h, e := New(pages, shapes...)
	if h == nil || e != api.OK {
		t.Fatalf("New(%d, ..): %v, error %d", pages, h, e)
	}
	return both{t, h, modelOf(pages, shapes)}
}

func (b both) fresh(c int) bool {
	b.t.Helper()
	want := b.m.fresh(c)
	wantIs(b.t, "Fresh", c, b.h.Fresh(c), want)
	return want
}

func (b both) alloc(s int, black bool) (int, api.Errno) {
	b.t.Helper()
	want, e := b.m.alloc(s, black)
	wantAlloc(b.t, b.h, s, black, want, e)
	return want, e
}

func (b both) store(addr, field, v int) bool {
	b.t.Helper()
	want := b.m.store(addr, field, v)
	if got := b.h.Store(addr, field, v); got != want {
		b.t.Errorf("Store(%d, %d, %d): %t, not %t", addr, field, v, got, want)
	}
	return want
}

func (b both) shade(addr int) bool {
	b.t.Helper()
	want := b.m.turn(addr, 0, 1)
	wantIs(b.t, "Shade", addr, b.h.Shade(addr), want)
	return want
}

func (b both) finish(addr int) bool {
	b.t.Helper()
	want := b.m.turn(addr, 1, 2)
	wantIs(b.t, "Finish", addr, b.h.Finish(addr), want)
	return want
}

func (b both) sweep(k int) int {
	b.t.Helper()
	want := b.m.sweep(k)
	wantNumber(b.t, "SweepPage", k, b.h.SweepPage(k), want)
	return want
}

// fill allocates Whites of a shape till there is no slot any more; where.
func (b both) fill(s int) []int {
	b.t.Helper()
	var l []int
	for {
		addr, e := b.alloc(s, false)
		if e != api.OK {
			return l
		}
		l = append(l, addr)
	}
}

// write sets each field of each object to a word of its own.
func (b both) write() {
	b.t.Helper()
	for _, o := range b.m.all() {
		for k := range o.fields {
			b.store(o.addr, k, o.serial*100+k+1)
		}
	}
}

// paint gives an object a color, by what may be done to a White one.
func (b both) paint(addr, color int) {
	b.t.Helper()
	if color > 0 {
		b.shade(addr)
	}
	if color > 1 {
		b.finish(addr)
	}
}

// same holds all that the heap tells against the model.
func (b both) same() {
	b.t.Helper()
	b.sameWords()
	b.sameLists()
	b.samePages()
	for _, addr := range outside(len(b.m.class)) {
		wantFind(b.t, b.h, addr, 0, false)
		wantNoObject(b.t, b.h, addr)
	}
	wantNumber(b.t, "Given", 0, b.h.Given(), b.m.given)
	// What went is not told, but must not be kept either.
	wantNumber(b.t, "objects kept", 0, len(b.h.objects), len(b.m.things))
}

func (b both) sameWords() {
	b.t.Helper()
	for w := range 32 * len(b.m.class) {
		addr := base + w
		if o := b.m.around(addr); o != nil {
			wantFind(b.t, b.h, addr, o.addr, true)
		} else {
			wantFind(b.t, b.h, addr, 0, false)
		}
		if o := b.m.at(addr); o != nil {
			wantObject(b.t, b.h, *o)
		} else {
			wantNoObject(b.t, b.h, addr)
		}
	}
}

func (b both) sameLists() {
	b.t.Helper()
	var greys []int
	got, want := b.h.Objects(), b.m.all()
	if len(got) != len(want) {
		b.t.Errorf("Objects: %d of them, not %d", len(got), len(want))
		return
	}
	for i, o := range want {
		if !sameObject(got[i], *o) {
			b.t.Errorf("Objects: %v stands where %v should", got[i], *o)
		}
		if o.color == 1 {
			greys = append(greys, o.addr)
		}
	}
	if l := b.h.Greys(); !slices.Equal(l, greys) {
		b.t.Errorf("Greys: %v, not %v", l, greys)
	}
}

func (b both) samePages() {
	b.t.Helper()
	none := 0
	for k, c := range b.m.class {
		if c < 0 {
			none++
			wantClass(b.t, b.h, k, -1, false)
			continue
		}
		wantClass(b.t, b.h, k, c, len(b.m.on(k)) < slots()[c])
	}
	wantRoom(b.t, b.h, none, len(b.m.class))
	for _, k := range append(farOut(), len(b.m.class)) {
		wantClass(b.t, b.h, k, -1, false)
	}
}

func wantIs(t *testing.T, what string, arg int, got, want bool) {
	t.Helper()
	if got != want {
		t.Errorf("%s(%d): %t, not %t", what, arg, got, want)
	}
}

func wantNumber(t *testing.T, what string, arg, got, want int) {
	t.Helper()
	if got != want {
		t.Errorf("%s(%d): %d, not %d", what, arg, got, want)
	}
}

func wantAlloc(t *testing.T, h *Heap, s int, black bool, want int, e api.Errno) {
	t.Helper()
	if addr, got := h.Alloc(s, black); addr != want || got != e {
		t.Errorf("Alloc(%d, %t): %d, error %d, not %d, %d", s, black, addr, got, want, e)
	}
}

func wantFind(t *testing.T, h *Heap, v, want int, wantIs bool) {
	t.Helper()
	if addr, is := h.Find(v); addr != want || is != wantIs {
		t.Errorf("Find(%d): %d %t, not %d %t", v, addr, is, want, wantIs)
	}
}

func wantLoad(t *testing.T, h *Heap, addr, field, want int, wantIs bool) {
	t.Helper()
	if v, is := h.Load(addr, field); v != want || is != wantIs {
		t.Errorf("Load(%d, %d): %d %t, not %d %t", addr, field, v, is, want, wantIs)
	}
}

func wantClass(t *testing.T, h *Heap, k, want int, wantRoom bool) {
	t.Helper()
	if c, room := h.Class(k); c != want || room != wantRoom {
		t.Errorf("Class(%d): %d %t, not %d %t", k, c, room, want, wantRoom)
	}
}

func wantRoom(t *testing.T, h *Heap, none, all int) {
	t.Helper()
	if x, y := h.Room(); x != none || y != all {
		t.Errorf("Room: %d %d, not %d %d", x, y, none, all)
	}
}

func sameObject(got api.Object, want thing) bool {
	return got.Addr == want.addr && got.Shape == want.shape && got.Serial == want.serial && slices.Equal(got.Fields, want.fields) && got.Marked == (want.color != 0)
}

// wantObject holds what is told of an address where an object begins against what is wanted.
func wantObject(t *testing.T, h *Heap, want thing) {
	t.Helper()
	if o, is := h.Object(want.addr); !is || !sameObject(o, want) {
		t.Errorf("Object(%d): %v %t, not %v", want.addr, o, is, want)
	}
	wantNumber(t, "Color", want.addr, h.Color(want.addr), want.color)
	for k, v := range want.fields {
		wantLoad(t, h, want.addr, k, v, true)
	}
	for _, k := range append(farOut(), len(want.fields), len(want.fields)+1, 16, 32) {
		wantLoad(t, h, want.addr, k, 0, false)
	}
}

// wantNoObject holds what is told of an address where no object begins against nothing.
func wantNoObject(t *testing.T, h *Heap, addr int) {
	t.Helper()
	if o, is := h.Object(addr); is || !sameObject(o, thing{}) {
		t.Errorf("Object(%d): %v %t", addr, o, is)
	}
	wantNumber(t, "Color", addr, h.Color(addr), 0)
	for _, k := range []int{0, 1, 15, -1, base, base - addr, math.MaxInt, math.MinInt} {
		wantLoad(t, h, addr, k, 0, false)
	}
}

// P701, P702: the example of the chapter.
func TestExample(t *testing.T) {
	h, _ := New(1, ints(2))
	wantIs(t, "Fresh", 1, h.Fresh(1), true)
	wantAlloc(t, h, 0, false, base, api.OK)
	wantAlloc(t, h, 0, false, base+2, api.OK)
	wantIs(t, "Shade", base+2, h.Shade(base+2), true)
	wantNumber(t, "SweepPage", 0, h.SweepPage(0), 1)
	wantNoObject(t, h, base)
	wantObject(t, h, thing{addr: base + 2, serial: 2, fields: []int{0, 0}})
}

// P702: what the colors are.
func TestColors(t *testing.T) {
	if White != 0 || Grey != 1 || Black != 2 {
		t.Errorf("%d, %d, %d", White, Grey, Black)
	}
}

// P701: a heap of shapes that may be is empty, and has as many pages as an arena would.
func TestNew(t *testing.T) {
	node := api.Shape{Fields: []int{api.Int, api.Ptr + 1}}
	leaf := api.Shape{Fields: []int{api.Ptr}}
	for pages, want := range map[int]int{0: 0, 1: 1, 5: 5, 63: 63, 64: 64, 65: 64, 1 << 40: 64, math.MaxInt: 64, -1: 0, -1 << 40: 0, math.MinInt: 0} {
		for _, l := range [][]api.Shape{nil, {ints(1)}, {node, leaf}, ladder()} {
			h, e := New(pages, l...)
			if h == nil || e != api.OK {
				t.Fatalf("New(%d, %v): %v, error %d", pages, l, h, e)
			}
			both{t, h, modelOf(want, l)}.same()
		}
	}
}

// P701: of shapes that may not be there is no heap, but shape.Check's error, whatever the pages are.
func TestNewOfWrongShapes(t *testing.T) {
	none, kind := ints(0), api.Shape{Fields: []int{api.Int, api.None}}
	cases := []struct {
		shapes []api.Shape
		want   api.Errno
	}{
		{append(ladder(), ints(1)), api.ErrArg},
		{append(ladder(), kind), api.ErrArg},
		{[]api.Shape{none}, api.ErrArg},
		{[]api.Shape{{}}, api.ErrArg},
		{[]api.Shape{ints(1), none}, api.ErrArg},
		{[]api.Shape{ints(17)}, api.ErrArg},
		{[]api.Shape{ints(16), ints(40)}, api.ErrArg},
		{[]api.Shape{kind}, api.ErrKind},
		{[]api.Shape{{Fields: []int{api.Ptr + 1}}}, api.ErrKind},
		{[]api.Shape{{Fields: []int{api.Loc}}}, api.ErrKind},
		{[]api.Shape{{Fields: []int{-1}}}, api.ErrKind},
		{[]api.Shape{ints(3), {Fields: []int{api.Int, math.MaxInt}}}, api.ErrKind},
		{[]api.Shape{kind, none}, api.ErrKind},
		{[]api.Shape{none, kind}, api.ErrArg},
	}
	for _, c := range cases {
		if e := shape.Check(c.shapes...); e != c.want {
			t.Errorf("Check(%v): error %d, not %d", c.shapes, e, c.want)
		}
		for _, pages := range []int{0, 2, -1, 1000} {
			if h, e := New(pages, c.shapes...); h != nil || e != c.want {
				t.Errorf("New(%d, %v): %v, error %d, not %d", pages, c.shapes, h, e, c.want)
			}
		}
	}
}

// P701: a heap keeps nothing of the shapes that were handed in, and writes nothing into them.
func TestNewKeepsNoShapes(t *testing.T) {
	l := []api.Shape{ints(2), ints(5)}
	b := started(t, 2, l...)
	if !shape.Same(l[0], ints(2)) || !shape.Same(l[1], ints(5)) {
		t.Errorf("the shapes became %v", l)
	}
	l[1].Fields[0] = api.Ptr
	l[0] = ints(9)
	l[1].Fields = nil
	b.fresh(1)
	b.fresh(4)
	b.alloc(0, false)
	b.alloc(1, false)
	b.alloc(0, true)
	b.same()
}

// P701: two heaps have nothing to do with each other.
func TestTwoHeaps(t *testing.T) {
	a, b := started(t, 2, ints(3)), started(t, 2, ints(3))
	a.fresh(2)
	a.fill(0)
	a.write()
	b.same()
	b.fresh(2)
	b.alloc(0, true)
	b.same()
	a.same()
	a.sweep(0)
	a.same()
	b.same()
}

// P701: an object of each shape stands in a slot of the class of its fields, White or Black as asked for, all fields 0.
func TestAllocOfEachShape(t *testing.T) {
	for s := range 16 {
		for _, black := range []bool{false, true} {
			b := started(t, 9, ladder()...)
			for c := range sizes() {
				b.fresh(c)
			}
			want := thing{addr: base + 32*classOf()[s+1], shape: s, serial: 1, fields: make([]int, s+1)}
			if black {
				want.color = Black
			}
			if addr, e := b.alloc(s, black); addr != want.addr || e != api.OK {
				t.Errorf("Alloc(%d, %t): %d, error %d, not %d", s, black, addr, e, want.addr)
			}
			wantObject(t, b.h, want)
			b.same()
			b.alloc(s, !black)
			b.same()
		}
	}
}

// P701: shapes of one class share its pages, and each object keeps its own shape.
func TestAllocOfOneClass(t *testing.T) {
	b := started(t, 2, ladder()...)
	b.fresh(6)
	b.fresh(6)
	for i, s := range []int{11, 8, 10, 9} {
		b.alloc(s, i%2 == 1)
		b.same()
	}
	b.write()
	b.same()
}

// P701: there is no object of what is no shape: not below the first one, nor behind the last one, nor of a heap of none.
func TestAllocOfNoShape(t *testing.T) {
	for n := range 17 {
		b := started(t, 8, ladder()[:n]...)
		for range 2 {
			for _, s := range append(farOut(), n, n+1, 16, 17) {
				for _, black := range []bool{false, true} {
					if addr, e := b.alloc(s, black); addr != 0 || e != api.ErrPlace {
						t.Errorf("of %d shapes: Alloc(%d, %t): %d, error %d", n, s, black, addr, e)
					}
				}
			}
			b.same()
			for c := range sizes() {
				b.fresh(c)
			}
		}
		if n > 0 {
			b.alloc(n-1, false)
			b.same()
		}
	}
}

// P701: a shape whose class has no page finds no slot, though all others have some and pages are left; none is taken by it.
func TestAllocOfNoPage(t *testing.T) {
	for s := range 16 {
		c := classOf()[s+1]
		b := started(t, 9, ladder()...)
		for other := range sizes() {
			for _, black := range []bool{false, true} {
				if addr, e := b.alloc(s, black); addr != 0 || e != api.ErrFull {
					t.Errorf("Alloc(%d, %t): %d, error %d", s, black, addr, e)
				}
			}
			b.same()
			if other != c {
				b.fresh(other)
			}
		}
		b.alloc(s, false)
		wantRoom(t, b.h, 2, 9)
		b.fresh(c)
		b.alloc(s, false)
		b.same()
	}
}

// P701: a class whose slots are all used gives none till it has another page, and takes none for itself.
func TestAllocOfFullPages(t *testing.T) {
	for s := range 16 {
		c := classOf()[s+1]
		b := started(t, 4, ladder()...)
		b.fresh(7 - c)
		b.fresh(c)
		for k := 1; k < 3; k++ {
			if n := len(b.fill(s)); n != slots()[c] {
				t.Errorf("shape %d: %d fit on a page, not %d", s, n, slots()[c])
			}
			b.same()
			for range 3 {
				if _, e := b.alloc(s, true); e != api.ErrFull {
					t.Errorf("Alloc(%d) of full pages: error %d", s, e)
				}
			}
			wantRoom(t, b.h, 3-k, 4)
			b.same()
			b.fresh(c)
		}
	}
}

// P701: the fields of a new object are 0, whatever stood there before: one of the same shape, or of any other class.
func TestAllocClears(t *testing.T) {
	for before := range 16 {
		for s := range 16 {
			b := started(t, 1, ladder()...)
			b.fresh(classOf()[before+1])
			b.fill(before)
			b.write()
			if b.sweep(0); !b.fresh(classOf()[s+1]) {
				t.Fatalf("from shape %d to %d: no page", before, s)
			}
			for range b.fill(s) {
				b.sameLists()
			}
			b.same()
		}
	}
}

// P701: a slot between others that stay is cleared alone.
func TestAllocClearsOneSlot(t *testing.T) {
	for s := range 16 {
		for slot := range slots()[classOf()[s+1]] {
			b := started(t, 1, ladder()...)
			b.fresh(classOf()[s+1])
			for k, addr := range b.fill(s) {
				if k != slot {
					b.shade(addr)
				}
			}
			b.write()
			b.sweep(0)
			b.alloc(s, false)
			b.same()
		}
	}
}

// P701: serials are 1, 2, 3 and on, over all shapes and pages; what failed takes none, and what went does not give its own back.
func TestSerials(t *testing.T) {
	b := started(t, 3, ints(1), ints(6))
	serial := 0
	next := func(s int, black bool) {
		t.Helper()
		addr, _ := b.alloc(s, black)
		serial++
		if o, is := b.h.Object(addr); !is || o.Serial != serial {
			t.Errorf("the serial at %d: %d, not %d", addr, o.Serial, serial)
		}
	}
	b.alloc(0, false)
	b.alloc(7, false)
	b.fresh(0)
	b.alloc(1, false)
	next(0, false)
	b.alloc(-1, true)
	next(0, true)
	b.fresh(4)
	for range 5 {
		next(1, false)
	}
	b.alloc(1, false)
	next(0, false)
	b.sweep(1)
	b.sweep(0)
	b.sweep(0)
	wantRoom(t, b.h, 3, 3)
	b.alloc(0, false)
	b.fresh(0)
	next(0, false)
	if serial != 9 {
		t.Errorf("%d serials", serial)
	}
	b.same()
}

// P701: each class gets page by page, the least one first, till none is left; Room goes down by each alone.
func TestFresh(t *testing.T) {
	for c := range sizes() {
		b := started(t, 3, ladder()...)
		for k := range 3 {
			wantRoom(t, b.h, 3-k, 3)
			if !b.fresh(c) {
				t.Errorf("Fresh(%d): none", c)
			}
			wantRoom(t, b.h, 2-k, 3)
			wantClass(t, b.h, k, c, true)
			b.same()
		}
		for range 2 {
			if b.fresh(c) || b.fresh(7-c) {
				t.Errorf("Fresh(%d): one too many", c)
			}
			b.same()
		}
	}
}

// P701: what is no class gets no page, whether one is left or not.
func TestFreshOfNoClass(t *testing.T) {
	b := started(t, 2, ints(1))
	for range 3 {
		for _, c := range append(farOut(), 8, 9, 16, 32) {
			if b.fresh(c) {
				t.Errorf("Fresh(%d): true", c)
			}
		}
		b.same()
		b.fresh(0)
	}
}

// P701: Find tells the object of each word of its slot, also of those behind its fields; of no others, at both ends of the heap.
func TestFind(t *testing.T) {
	for s := range 16 {
		c := classOf()[s+1]
		b := started(t, 3, ladder()...)
		for range 3 {
			b.fresh(c)
		}
		addrs := b.fill(s)
		for w := range 96 {
			slot := w % 32 / sizes()[c]
			if slot < slots()[c] {
				wantFind(t, b.h, base+w, base+w/32*32+slot*sizes()[c], true)
			} else {
				wantFind(t, b.h, base+w, 0, false)
			}
		}
		for i, addr := range addrs {
			b.paint(addr, i%3)
		}
		b.same()
		b.sweep(1)
		b.same()
	}
}

// P701: a Store changes that one field of that one object alone.
func TestStoreOfOne(t *testing.T) {
	for s := range 16 {
		b := started(t, 2, ladder()...)
		b.fresh(classOf()[s+1])
		b.fresh(classOf()[s+1])
		addrs := b.fill(s)
		for i, addr := range addrs {
			for k := range s + 1 {
				if !b.store(addr, k, 1000*i+k+1) {
					t.Errorf("Store(%d, %d): false", addr, k)
				}
				b.sameLists()
			}
		}
		b.same()
		for _, addr := range addrs {
			b.store(addr, s, 0)
			b.sameLists()
		}
		b.same()
	}
}

// P701: nothing is stored in a field below the first or behind the last one, though the slot goes on or another object stands there.
func TestStoreOfNoField(t *testing.T) {
	for s := range 16 {
		b := started(t, 3, ladder()...)
		b.fresh(classOf()[s+1])
		b.fresh(classOf()[s+1])
		addrs := b.fill(s)
		b.write()
		for _, addr := range addrs {
			for _, k := range append(farOut(), s+1, s+2, 15, 16, 17, 31, 32, -s-1, base, -base) {
				if k > s && b.store(addr, k, 5) || k < 0 && b.store(addr, k, 5) {
					t.Errorf("shape %d: Store(%d, %d): true", s, addr, k)
				}
			}
		}
		b.same()
	}
}

// P701: nothing is stored where no object begins: inside of one, in a slot that is not used, behind the last one, outside.
func TestStoreOfNoObject(t *testing.T) {
	for s := range 16 {
		c := classOf()[s+1]
		b := started(t, 3, ladder()...)
		b.fresh(c)
		b.fresh(c)
		b.alloc(s, false)
		b.write()
		for w := 1; w < 96; w++ {
			for _, k := range []int{0, 1, -1, -w, s, math.MaxInt, math.MinInt} {
				if b.store(base+w, k, 9) {
					t.Errorf("shape %d: Store(%d, %d): true", s, base+w, k)
				}
			}
		}
		for _, addr := range outside(3) {
			for _, k := range []int{0, 1, -1, base - addr, math.MaxInt, math.MinInt} {
				if b.store(addr, k, 9) {
					t.Errorf("shape %d: Store(%d, %d): true", s, addr, k)
				}
			}
		}
		b.same()
		b.fill(s)
		b.same()
	}
}

// P701: a word is kept as it is, whatever it is and of whatever kind the field.
func TestStoreOfAnyWord(t *testing.T) {
	b := started(t, 1, api.Shape{Fields: []int{api.Int, api.Ptr}})
	b.fresh(1)
	b.alloc(0, false)
	for _, v := range append(farOut(), 0, 1, base, base+1, api.StackBase, math.MaxInt32, math.MinInt32, math.MaxInt32+1, math.MinInt32-1) {
		for k := range 2 {
			b.store(base, k, v)
			wantLoad(t, b.h, base, k, v, true)
		}
		b.same()
	}
}

// P701: Objects has none, some and all, by address, whatever the order in which they came and went.
func TestObjects(t *testing.T) {
	b := started(t, 10, ladder()...)
	for c := range sizes() {
		b.fresh(7 - c)
	}
	b.same()
	for s := range 16 {
		b.alloc(15-s, s%2 == 0)
		b.same()
	}
	for s := range 16 {
		b.fill(s)
	}
	b.write()
	b.same()
	l := b.h.Objects()
	if len(l) != 79 {
		t.Errorf("Objects: %d of them, not 79", len(l))
	}
	for i := 1; i < len(l); i++ {
		if l[i-1].Addr >= l[i].Addr {
			t.Errorf("Objects: %d ahead of %d", l[i-1].Addr, l[i].Addr)
		}
	}
	for i, o := range l {
		b.paint(o.Addr, i%3)
	}
	for k := range 10 {
		b.sweep(k)
		b.same()
	}
}

// P701: what was answered stays as it was, whatever is done to the heap.
func TestAnswersStay(t *testing.T) {
	b := started(t, 2, ints(2), ints(3))
	b.fresh(1)
	b.fresh(2)
	b.alloc(0, false)
	b.alloc(1, true)
	b.alloc(0, false)
	b.write()
	b.shade(base + 2)
	want := b.m.all()
	old := make([]thing, len(want))
	for i, o := range want {
		old[i] = *o
		old[i].fields = slices.Clone(o.fields)
	}
	all, greys := b.h.Objects(), b.h.Greys()
	one, _ := b.h.Object(base + 2)
	b.store(base+2, 0, -7)
	b.store(base, 1, -8)
	b.shade(base)
	b.finish(base + 2)
	b.sweep(0)
	b.sweep(0)
	b.fresh(7)
	b.sweep(1)
	b.sweep(1)
	b.fresh(2)
	b.fill(1)
	for i, o := range old {
		if !sameObject(all[i], o) {
			t.Errorf("Objects, as it was answered: %v, not %v", all[i], o)
		}
	}
	if !sameObject(one, old[1]) {
		t.Errorf("Object, as it was answered: %v, not %v", one, old[1])
	}
	if !slices.Equal(greys, []int{base + 2}) {
		t.Errorf("Greys, as it was answered: %v", greys)
	}
	b.same()
}

// P701: what was answered is nobody else's: what is written into it is told by no other answer, nor by the heap.
func TestAnswersAreNew(t *testing.T) {
	b := started(t, 1, ints(2))
	b.fresh(1)
	for _, addr := range b.fill(0) {
		b.shade(addr)
	}
	b.write()
	first, greys, one := b.h.Objects(), b.h.Greys(), b.m.all()
	second, others := b.h.Objects(), b.h.Greys()
	for i, o := range first {
		got, _ := b.h.Object(o.Addr)
		for k := range got.Fields {
			got.Fields[k] = -3
		}
		// Behind the end too: one object's fields must not run into the next one's.
		_ = append(o.Fields, -1, -1)
		if next := i + 1; next < len(first) && !sameObject(first[next], *one[next]) {
			t.Errorf("the fields of %d and %d are one list", i, next)
		}
		for k := range o.Fields {
			o.Fields[k] = -2
		}
		first[i].Serial = -5
	}
	for i := range greys {
		greys[i] = -4
	}
	for i, o := range second {
		if !sameObject(o, *one[i]) || others[i] != one[i].addr {
			t.Errorf("beside a list that was written: %v, not %v", o, *one[i])
		}
	}
	b.same()
}

// P701: Given counts the fields that were allocated, not the slots' words, nor what failed; what goes stays counted.
func TestGiven(t *testing.T) {
	b := started(t, 8, ladder()...)
	for c := range sizes() {
		b.fresh(c)
	}
	given := 0
	wantNumber(t, "Given", 0, b.h.Given(), 0)
	for round := range 2 {
		for s := range 16 {
			_, e := b.alloc(s, round == 1)
			if e == api.OK {
				given += s + 1
			}
			wantNumber(t, "Given", s, b.h.Given(), given)
			b.alloc(16, false)
			b.alloc(-1, false)
			wantNumber(t, "Given", s, b.h.Given(), given)
		}
	}
	for k := range 8 {
		b.sweep(k)
		b.sweep(k)
		wantNumber(t, "Given", k, b.h.Given(), given)
	}
	b.alloc(0, false)
	wantNumber(t, "Given", 0, b.h.Given(), given)
	b.fresh(0)
	b.alloc(0, false)
	wantNumber(t, "Given", 0, b.h.Given(), given+1)
}

// P701: Class tells each page's class, and its room till its last slot is used, and from the first one that goes on.
func TestClass(t *testing.T) {
	for s := range 16 {
		c := classOf()[s+1]
		b := started(t, 3, ladder()...)
		wantClass(t, b.h, 0, -1, false)
		b.fresh((c + 1) % 8)
		b.fresh(c)
		for slot := range slots()[c] {
			wantClass(t, b.h, 1, c, true)
			addr, _ := b.alloc(s, false)
			if slot > 0 {
				b.shade(addr)
			}
		}
		wantClass(t, b.h, 0, (c+1)%8, true)
		wantClass(t, b.h, 1, c, false)
		for _, k := range append(farOut(), 2, 3) {
			wantClass(t, b.h, k, -1, false)
		}
		b.sweep(1)
		wantClass(t, b.h, 1, c, true)
		b.sweep(1)
		wantClass(t, b.h, 1, -1, false)
		b.same()
	}
}

// P702: what Shade and Finish do to an object of each color, each twice, alone and one behind the other; no other one changes.
func TestShadeAndFinish(t *testing.T) {
	for s := range 16 {
		for color := range 3 {
			for _, calls := range []string{"ss", "ff", "sf", "fs", "ssff", "ffssff", "sfsf"} {
				b := started(t, 2, ladder()...)
				b.fresh(classOf()[s+1])
				b.fresh(classOf()[s+1])
				addrs := b.fill(s)
				b.write()
				for i, addr := range addrs {
					b.paint(addr, (i+color+2)%3)
				}
				wantNumber(t, "Color", addrs[1], b.h.Color(addrs[1]), color)
				for _, call := range calls {
					if call == 's' {
						b.shade(addrs[1])
					} else {
						b.finish(addrs[1])
					}
					b.sameLists()
				}
				b.same()
			}
		}
	}
}

// P702: what each of the two answers, and what color comes of it, written out by hand.
func TestShadeAndFinishByHand(t *testing.T) {
	h, _ := New(1, ints(3))
	h.Fresh(2)
	h.Alloc(0, false)
	h.Alloc(0, true)
	marked := func(addr int) bool { o, _ := h.Object(addr); return o.Marked }
	wantIs(t, "Finish", base, h.Finish(base), false)
	wantNumber(t, "Color", base, h.Color(base), White)
	wantIs(t, "Marked", base, marked(base), false)
	for _, want := range []bool{true, false} {
		wantIs(t, "Shade", base, h.Shade(base), want)
		wantNumber(t, "Color", base, h.Color(base), Grey)
		wantIs(t, "Marked", base, marked(base), true)
	}
	for _, want := range []bool{true, false} {
		wantIs(t, "Finish", base, h.Finish(base), want)
		wantNumber(t, "Color", base, h.Color(base), Black)
		wantIs(t, "Marked", base, marked(base), true)
	}
	wantIs(t, "Shade", base, h.Shade(base), false)
	wantNumber(t, "Color", base, h.Color(base), Black)
	wantIs(t, "Shade", base+3, h.Shade(base+3), false)
	wantIs(t, "Finish", base+3, h.Finish(base+3), false)
	wantNumber(t, "Color", base+3, h.Color(base+3), Black)
	wantIs(t, "Marked", base+3, marked(base+3), true)
}

// P702: nothing is shaded, nor finished, where no object begins: inside of one of any color, in slots that are not used, outside.
func TestColorOfNone(t *testing.T) {
	for s := range 16 {
		for color := range 3 {
			b := started(t, 3, ladder()...)
			b.fresh(classOf()[s+1])
			b.fresh(classOf()[s+1])
			b.alloc(s, false)
			b.paint(base, color)
			l := outside(3)
			for w := 1; w < 96; w++ {
				l = append(l, base+w)
			}
			for _, addr := range l {
				if b.shade(addr) || b.finish(addr) || b.shade(addr) {
					t.Errorf("of %d, where no object begins: true", addr)
				}
				wantNumber(t, "Color", addr, b.h.Color(addr), White)
			}
			b.same()
		}
	}
}

// P702: Greys has none, some and all, by address, whatever the order in which they were shaded.
func TestGreys(t *testing.T) {
	b := started(t, 4, ints(6), ints(10))
	for _, c := range []int{6, 4, 6, 4} {
		b.fresh(c)
	}
	b.same()
	addrs := append(b.fill(0), b.fill(1)...)
	b.same()
	if l := b.h.Greys(); len(l) != 0 {
		t.Errorf("Greys with none: %v", l)
	}
	for i := range addrs {
		b.shade(addrs[(i*5+3)%len(addrs)])
		b.sameLists()
	}
	slices.Sort(addrs)
	if l := b.h.Greys(); !slices.Equal(l, addrs) {
		t.Errorf("Greys with all: %v, not %v", l, addrs)
	}
	for i := range addrs {
		b.finish(addrs[(i*3+1)%len(addrs)])
		b.sameLists()
	}
	if l := b.h.Greys(); len(l) != 0 {
		t.Errorf("Greys with all Black: %v", l)
	}
}

// P702: of a page with objects of all colors the White ones go and the others are White; those of other pages stay, in their colors.
func TestSweepPage(t *testing.T) {
	for s := range 16 {
		for first := range 3 {
			b := started(t, 4, ladder()...)
			for range 3 {
				b.fresh(classOf()[s+1])
			}
			for i, addr := range b.fill(s) {
				b.paint(addr, (i+first)%3)
			}
			b.write()
			for _, k := range []int{1, 1, 0, 2, 0, 2} {
				ahead, _ := b.h.Room()
				b.sweep(k)
				b.same()
				behind, _ := b.h.Room()
				if c, _ := b.h.Class(k); c >= 0 && behind != ahead || behind < ahead || behind > ahead+1 {
					t.Errorf("shape %d: Room %d ahead of, %d behind a sweep", s, ahead, behind)
				}
			}
		}
	}
}

// P702: what a sweep takes and leaves, written out by hand.
func TestSweepPageByHand(t *testing.T) {
	h, _ := New(2, ints(5))
	h.Fresh(4)
	h.Fresh(4)
	for k := range 7 {
		addr, _ := h.Alloc(0, k == 2)
		h.Store(addr, 4, 70+k)
	}
	h.Shade(base + 6)
	wantNumber(t, "SweepPage", 0, h.SweepPage(0), 3)
	wantObject(t, h, thing{addr: base + 6, serial: 2, fields: []int{0, 0, 0, 0, 71}})
	wantObject(t, h, thing{addr: base + 12, serial: 3, fields: []int{0, 0, 0, 0, 72}})
	wantObject(t, h, thing{addr: base + 32, serial: 6, fields: []int{0, 0, 0, 0, 75}})
	wantObject(t, h, thing{addr: base + 38, serial: 7, fields: []int{0, 0, 0, 0, 76}})
	for _, w := range []int{0, 1, 5, 18, 23, 24, 29} {
		wantFind(t, h, base+w, 0, false)
		wantNoObject(t, h, base+w)
		wantIs(t, "Store", base+w, h.Store(base+w, 0, 1), false)
		wantIs(t, "Shade", base+w, h.Shade(base+w), false)
		wantIs(t, "Finish", base+w, h.Finish(base+w), false)
	}
	if n := len(h.Objects()); n != 4 {
		t.Errorf("Objects: %d of them, not 4", n)
	}
	wantRoom(t, h, 0, 2)
	wantNumber(t, "SweepPage", 0, h.SweepPage(0), 2)
	wantRoom(t, h, 1, 2)
	wantNumber(t, "SweepPage", 0, h.SweepPage(0), 0)
	wantClass(t, h, 0, -1, false)
	wantNumber(t, "SweepPage", 1, h.SweepPage(1), 2)
	wantRoom(t, h, 2, 2)
}

// P702: a slot from which an object went is White when it is taken again, whatever color that one had; and not the old object.
func TestSweptSlotAgain(t *testing.T) {
	for color := range 3 {
		b := started(t, 1, ints(2), ints(1))
		b.fresh(1)
		b.alloc(0, false)
		b.alloc(0, false)
		b.write()
		b.paint(base, color)
		// What was not White goes by the second sweep.
		for range 2 {
			b.shade(base + 2)
			b.sweep(0)
		}
		b.same()
		if addr, e := b.alloc(0, false); addr != base || e != api.OK {
			t.Errorf("Alloc: %d, error %d, not %d", addr, e, base)
		}
		wantObject(t, b.h, thing{addr: base, serial: 3, fields: []int{0, 0}})
		b.same()
	}
}

// P702: a page whose objects all go has no class, and can be taken for any other one; so has one on which none ever stood.
func TestSweepOfAll(t *testing.T) {
	for s := range 16 {
		for n := range slots()[classOf()[s+1]] + 1 {
			b := started(t, 2, ladder()...)
			b.fresh(classOf()[s+1])
			b.fresh(7)
			for range n {
				b.alloc(s, false)
			}
			b.write()
			wantRoom(t, b.h, 0, 2)
			if gone := b.sweep(0); gone != n {
				t.Errorf("shape %d: %d went, not %d", s, gone, n)
			}
			wantRoom(t, b.h, 1, 2)
			wantClass(t, b.h, 0, -1, false)
			b.same()
			other := (s + n) % 16
			if !b.fresh(classOf()[other+1]) {
				t.Errorf("shape %d: no page for shape %d", s, other)
			}
			b.fill(other)
			b.same()
		}
	}
}

// P702: nothing goes of a page of no class, nor of what is no page, and nothing changes by it.
func TestSweepOfNone(t *testing.T) {
	b := started(t, 3, ints(2))
	b.fresh(1)
	b.alloc(0, false)
	b.alloc(0, true)
	b.alloc(0, false)
	b.shade(base)
	b.write()
	for range 2 {
		for _, k := range append(farOut(), 1, 2, 3, base, base/32) {
			if gone := b.sweep(k); gone != 0 {
				t.Errorf("SweepPage(%d): %d", k, gone)
			}
		}
		b.same()
	}
}

// wantEmpty holds every call, twice over, against a heap that has nothing, not even shapes.
func wantEmpty(t *testing.T, h *Heap, e api.Errno) {
	t.Helper()
	for range 2 {
		for _, k := range append(farOut(), 0, 1, 7) {
			wantAlloc(t, h, k, false, 0, e)
			wantAlloc(t, h, k, true, 0, e)
			wantIs(t, "Fresh", k, h.Fresh(k), false)
			wantNumber(t, "SweepPage", k, h.SweepPage(k), 0)
			wantClass(t, h, k, -1, false)
		}
		for _, addr := range append(outside(0), base+5) {
			wantFind(t, h, addr, 0, false)
			wantNoObject(t, h, addr)
			wantIs(t, "Store", addr, h.Store(addr, 0, 1), false)
			wantIs(t, "Shade", addr, h.Shade(addr), false)
			wantIs(t, "Finish", addr, h.Finish(addr), false)
		}
		wantRoom(t, h, 0, 0)
		wantNumber(t, "Given", 0, h.Given(), 0)
		if l, o := h.Greys(), h.Objects(); len(l) != 0 || len(o) != 0 {
			t.Errorf("Greys, Objects: %v, %v", l, o)
		}
	}
}

// P702: a nil Heap has nothing, and so has a zero one; one of no pages and no shapes is there, but empty.
func TestEmpty(t *testing.T) {
	wantEmpty(t, nil, api.ErrArg)
	wantEmpty(t, &Heap{}, api.ErrArg)
	h, _ := New(0)
	wantEmpty(t, h, api.ErrPlace)
	one, _ := New(-3, ints(1))
	wantAlloc(t, one, 0, false, 0, api.ErrFull)
	wantAlloc(t, one, 1, false, 0, api.ErrPlace)
}

// P701, P702: all pages of a heap of the greatest size, up to its last word.
func TestGreatestHeap(t *testing.T) {
	b := started(t, api.MaxPages, ints(16), ints(1))
	for k := range api.MaxPages {
		b.fresh(7 * (k % 2))
	}
	b.fill(0)
	b.fill(1)
	if n := len(b.h.Objects()); n != 32*2+32*32 {
		t.Errorf("Objects: %d of them", n)
	}
	last := base + 64*32 - 16
	wantFind(t, b.h, base+64*32-1, last, true)
	wantIs(t, "Store", last, b.store(last, 15, 3), true)
	wantLoad(t, b.h, last, 15, 3, true)
	wantNumber(t, "SweepPage", 63, b.sweep(63), 2)
	wantRoom(t, b.h, 1, 64)
	b.samePages()
	b.sameLists()
}

// P701, P702: long rows of calls in a mixed order answer what the plain model answers.
func TestMixedCalls(t *testing.T) {
	for pages := 1; pages <= 5; pages++ {
		b := started(t, pages, ladder()...)
		seed := uint32(pages)
		draw := func(n int) int {
			seed = seed*1664525 + 1013904223
			return int(seed>>8) % n
		}
		for i := range 4000 {
			addr := base + draw(32*pages+8) - 4
			if l := b.m.things; len(l) > 0 && draw(3) > 0 {
				addr = l[draw(len(l))].addr
			}
			switch what := draw(20); {
			case what < 2:
				b.fresh(draw(10) - 1)
			case what < 9:
				b.alloc(draw(18)-1, draw(3) == 0)
			case what < 12:
				b.store(addr, draw(18)-1, i+1)
			case what < 16:
				b.shade(addr)
			case what < 18:
				b.finish(addr)
			default:
				b.sweep(draw(pages+2) - 1)
			}
			if i%50 == 0 {
				b.same()
			}
		}
		b.same()
	}
}
