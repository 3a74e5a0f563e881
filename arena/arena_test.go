package arena

import (
	"math"
	"slices"
	"testing"

	"besom/api"
	"besom/page"
)

const base = api.HeapBase

// sizes has each class's words of a slot, written out by hand.
func sizes() []int { return []int{1, 2, 3, 4, 6, 8, 12, 16} }

// slots has each class's number of slots, written out by hand.
func slots() []int { return []int{32, 16, 10, 8, 5, 4, 2, 2} }

// farOut has numbers that are no class, no page, no slot and no address of any arena.
func farOut() []int {
	return []int{-1, -2, -8, -32, -64, 64, 65, 128, 2048, 1 << 32, -1 << 32, math.MaxInt, math.MaxInt - 1, math.MinInt, math.MinInt + 1, math.MinInt + base, math.MinInt + base + 32}
}

// noClasses has numbers that are no class.
func noClasses() []int { return append(farOut(), 8, 9, 16, 31, 32) }

// outside has addresses that lie outside of an arena of so many pages.
func outside(pages int) []int {
	end := base + 32*pages
	l := append(farOut(), 0, 1, 31, 32, base>>5, base-1, base-2, base-31, base-32, base-33, -base, -base-1, end, end+1, end+31, end+32, end+2048, 2*base, base+1<<32, base-1<<32, api.StackBase)
	return l
}

// model is an arena told plainly, word by word.
type model struct {
	class []int // of each page; -1: none
	used  [][32]bool
	words [][32]int
}

func modelOf(pages int) *model {
	m := &model{class: make([]int, pages), used: make([][32]bool, pages), words: make([][32]int, pages)}
	for k := range m.class {
		m.class[k] = -1
	}
	return m
}

// slot tells the page, the slot and the place of an address whose slot is used.
func (m *model) slot(addr int) (k, slot, place int, is bool) {
	for k, c := range m.class {
		for place := range 32 {
			if addr != base+32*k+place || c < 0 || place/sizes()[c] >= slots()[c] {
				continue
			}
			slot := place / sizes()[c]
			return k, slot, place, m.used[k][slot]
		}
	}
	return 0, 0, 0, false
}

func (m *model) grow(c int) bool {
	k := slices.Index(m.class, -1)
	if c < 0 || c > 7 || k < 0 {
		return false
	}
	m.class[k], m.used[k] = c, [32]bool{}
	return true
}

func (m *model) take(c int) (int, bool) {
	for k, got := range m.class {
		if got != c || c < 0 {
			continue
		}
		for slot := range slots()[c] {
			if m.used[k][slot] {
				continue
			}
			m.used[k][slot] = true
			for w := range sizes()[c] {
				m.words[k][slot*sizes()[c]+w] = 0
			}
			return base + 32*k + slot*sizes()[c], true
		}
	}
	return 0, false
}

func (m *model) free(addr int) bool {
	k, slot, place, is := m.slot(addr)
	if !is || place%sizes()[m.class[k]] != 0 {
		return false
	}
	m.used[k][slot] = false
	return true
}

func (m *model) store(addr, v int) bool {
	k, _, place, is := m.slot(addr)
	if is {
		m.words[k][place] = v
	}
	return is
}

func (m *model) drop(k int) bool {
	if k < 0 || k >= len(m.class) || m.class[k] < 0 || slices.Contains(m.used[k][:], true) {
		return false
	}
	m.class[k] = -1
	return true
}

// both is an arena and the model beside it: each call goes to both, and what they answer is held against each other.
type both struct {
	t *testing.T
	a *Arena
	m *model
}

func started(t *testing.T, pages int) both {
	t.Helper()
	a := New(pages)
	if a == nil {
		t.Fatalf("New(%d): nil", pages)
	}
	return both{t, a, modelOf(pages)}
}

func (b both) grow(c int) bool {
	b.t.Helper()
	want := b.m.grow(c)
	wantIs(b.t, "Grow", c, b.a.Grow(c), want)
	return want
}

func (b both) take(c int) (int, bool) {
	b.t.Helper()
	want, is := b.m.take(c)
	wantTake(b.t, b.a, c, want, is)
	return want, is
}

func (b both) free(addr int) bool {
	b.t.Helper()
	want := b.m.free(addr)
	wantIs(b.t, "Free", addr, b.a.Free(addr), want)
	return want
}

func (b both) store(addr, v int) bool {
	b.t.Helper()
	want := b.m.store(addr, v)
	wantIs(b.t, "Store", addr, b.a.Store(addr, v), want)
	return want
}

func (b both) drop(k int) bool {
	b.t.Helper()
	want := b.m.drop(k)
	wantIs(b.t, "Drop", k, b.a.Drop(k), want)
	return want
}

// fill takes all slots that there are of a class.
func (b both) fill(c int) {
	b.t.Helper()
	for is := true; is; {
		_, is = b.take(c)
	}
}

// write sets each word that may be set to one of its own.
func (b both) write() {
	b.t.Helper()
	for w := range 32 * len(b.m.class) {
		b.store(base+w, 1000+w)
	}
}

// same holds all that the arena tells against the model.
func (b both) same() {
	b.t.Helper()
	b.sameWords()
	b.samePages()
	for _, addr := range outside(len(b.m.class)) {
		wantNothing(b.t, b.a, addr)
	}
}

func (b both) sameWords() {
	b.t.Helper()
	var all []int
	for k, c := range b.m.class {
		for place := range 32 {
			addr := base + 32*k + place
			_, slot, _, is := b.m.slot(addr)
			if !is {
				wantNothing(b.t, b.a, addr)
				continue
			}
			from := base + 32*k + slot*sizes()[c]
			if from == addr {
				all = append(all, addr)
			}
			wantWord(b.t, b.a, addr, from, sizes()[c], b.m.words[k][place])
		}
	}
	if got := b.a.All(); !slices.Equal(got, all) {
		b.t.Errorf("All: %v, not %v", got, all)
	}
}

func (b both) samePages() {
	b.t.Helper()
	none := 0
	for k, c := range b.m.class {
		p := b.a.Page(k)
		if c < 0 {
			none++
		}
		if p != nil && c < 0 || p.Class() != c {
			b.t.Errorf("Page(%d): class %d, not %d", k, p.Class(), c)
		}
		for slot := range 32 {
			wantBase(b.t, b.a, k, slot, c)
			wantIs(b.t, "Used", slot, p.Used(slot), c >= 0 && b.m.used[k][slot])
		}
		for _, slot := range append(farOut(), 32, 33) {
			wantBase(b.t, b.a, k, slot, c)
		}
	}
	wantRoom(b.t, b.a, none, len(b.m.class))
	for _, k := range append(farOut(), len(b.m.class)) {
		if p := b.a.Page(k); p != nil {
			b.t.Errorf("Page(%d): not nil", k)
		}
		for _, slot := range []int{0, 1, -1, math.MaxInt, math.MinInt} {
			wantBase(b.t, b.a, k, slot, -1)
		}
	}
}

func wantIs(t *testing.T, what string, arg int, got, want bool) {
	t.Helper()
	if got != want {
		t.Errorf("%s(%d): %t, not %t", what, arg, got, want)
	}
}

func wantTake(t *testing.T, a *Arena, c, want int, wantIs bool) {
	t.Helper()
	if addr, is := a.Take(c); addr != want || is != wantIs {
		t.Errorf("Take(%d): %d %t, not %d %t", c, addr, is, want, wantIs)
	}
}

func wantFind(t *testing.T, a *Arena, addr, want int, wantIs bool) {
	t.Helper()
	if from, is := a.Find(addr); from != want || is != wantIs {
		t.Errorf("Find(%d): %d %t, not %d %t", addr, from, is, want, wantIs)
	}
}

func wantLoad(t *testing.T, a *Arena, addr, want int, wantIs bool) {
	t.Helper()
	if v, is := a.Load(addr); v != want || is != wantIs {
		t.Errorf("Load(%d): %d %t, not %d %t", addr, v, is, want, wantIs)
	}
}

func wantRoom(t *testing.T, a *Arena, none, all int) {
	t.Helper()
	if x, y := a.Room(); x != none || y != all {
		t.Errorf("Room: %d %d, not %d %d", x, y, none, all)
	}
}

// wantWord holds what is told of an address in a used slot against what is wanted.
func wantWord(t *testing.T, a *Arena, addr, from, size, v int) {
	t.Helper()
	wantFind(t, a, addr, from, true)
	if got := a.Size(addr); got != size {
		t.Errorf("Size(%d): %d, not %d", addr, got, size)
	}
	wantLoad(t, a, addr, v, true)
}

// wantNothing holds what is told of an address in no used slot against nothing.
func wantNothing(t *testing.T, a *Arena, addr int) {
	t.Helper()
	wantFind(t, a, addr, 0, false)
	if got := a.Size(addr); got != 0 {
		t.Errorf("Size(%d): %d, not 0", addr, got)
	}
	wantLoad(t, a, addr, 0, false)
}

func wantBase(t *testing.T, a *Arena, k, slot, c int) {
	t.Helper()
	want := 0
	if c >= 0 && slot >= 0 && slot < slots()[c] {
		want = base + 32*k + slot*sizes()[c]
	}
	if got := a.Base(k, slot); got != want {
		t.Errorf("Base(%d, %d): %d, not %d", k, slot, got, want)
	}
}

// wantRaw tells the words of the page 0, which has no class and is the least such one: as one of class 0, whose slots are taken by the page itself, so that nothing clears them.
func wantRaw(t *testing.T, a *Arena, want [32]int) {
	t.Helper()
	wantIs(t, "Grow", 0, a.Grow(0), true)
	for w := range 32 {
		a.Page(0).Take()
		wantLoad(t, a, base+w, want[w], true)
	}
	for w := range 32 {
		wantIs(t, "Free", base+w, a.Free(base+w), true)
	}
	wantIs(t, "Drop", 0, a.Drop(0), true)
}

// P601, P602: the example of the chapter.
func TestExample(t *testing.T) {
	a := New(1)
	wantIs(t, "Grow", 4, a.Grow(4), true)
	wantTake(t, a, 4, base, true)
	wantTake(t, a, 4, base+6, true)
	wantFind(t, a, base+7, base+6, true)
}

// P601: how far addresses are shifted is what a page has.
func TestPageShift(t *testing.T) {
	if 1<<pageShift != api.PageWords {
		t.Errorf("1 << %d is not %d", pageShift, api.PageWords)
	}
}

// P601: as many pages as are asked for, or the nearer end; none has a class.
func TestNew(t *testing.T) {
	ask := map[int]int{0: 0, 1: 1, 2: 2, 7: 7, 63: 63, 64: 64, 65: 64, 66: 64, 1000: 64, 1 << 40: 64, math.MaxInt: 64, -1: 0, -2: 0, -64: 0, -1 << 40: 0, math.MinInt: 0}
	for pages, want := range ask {
		b := both{t, New(pages), modelOf(want)}
		b.same()
		for range want {
			wantIs(t, "Grow", 0, b.a.Grow(0), true)
		}
		wantIs(t, "Grow", 0, b.a.Grow(0), false)
	}
}

// P601: all words are 0 ahead of any Take: they are told of slots that the pages themselves gave out.
func TestNewWords(t *testing.T) {
	a := New(api.MaxPages)
	for k := range api.MaxPages {
		wantIs(t, "Grow", 0, a.Grow(0), true)
		for w := range 32 {
			if slot, is := a.Page(k).Take(); slot != w || !is {
				t.Errorf("page %d's Take: %d %t", k, slot, is)
			}
			wantLoad(t, a, base+32*k+w, 0, true)
		}
	}
}

// P601: two arenas have nothing to do with each other.
func TestTwoArenas(t *testing.T) {
	b, c := started(t, 2), started(t, 2)
	b.grow(3)
	b.fill(3)
	b.write()
	c.same()
	c.grow(1)
	c.take(1)
	c.same()
	b.same()
}

// P601: the word at the place w of the page k has the address HeapBase, 32 times k and w.
func TestAddresses(t *testing.T) {
	a := New(api.MaxPages)
	for range api.MaxPages {
		a.Grow(0)
	}
	for w := range 2048 {
		wantTake(t, a, 0, base+w, true)
	}
	wantTake(t, a, 0, 0, false)
	wantNothing(t, a, base-1)
	wantNothing(t, a, base+2048)
}

// P601: each class gets page by page, the least one first, till there is no more, however often it is tried.
func TestGrow(t *testing.T) {
	for c := range sizes() {
		b := started(t, 3)
		for range 3 {
			if !b.grow(c) {
				t.Errorf("Grow(%d): none", c)
			}
			b.same()
		}
		for range 3 {
			if b.grow(c) || b.grow(7-c) {
				t.Errorf("Grow(%d): one too many", c)
			}
			b.same()
		}
	}
}

// P601: what is no class gets no page, whether there is one or not.
func TestGrowOfNoClass(t *testing.T) {
	b := started(t, 2)
	for range 3 {
		for _, c := range noClasses() {
			if b.grow(c) {
				t.Errorf("Grow(%d): true", c)
			}
		}
		b.same()
		b.grow(2)
	}
}

// P601: of several pages of no class the least one is taken, in whatever order they lost theirs.
func TestGrowLeast(t *testing.T) {
	b := started(t, 5)
	for c := range 5 {
		b.grow(c)
	}
	for _, k := range []int{3, 0, 4, 1} {
		b.drop(k)
	}
	for i, k := range []int{0, 1, 3, 4} {
		b.grow(7 - i)
		b.same()
		if got := b.a.Page(k).Class(); got != 7-i {
			t.Errorf("Grow(%d): the page %d has class %d", 7-i, k, got)
		}
	}
	b.grow(0)
	b.same()
}

// P601: a class that has no page gives no slot, though all the others have some; nor does what is no class.
func TestTakeOfNoPage(t *testing.T) {
	for c := range sizes() {
		b := started(t, 9)
		for other := range sizes() {
			if other != c {
				b.grow(other)
			}
		}
		for _, wrong := range append(noClasses(), c) {
			if _, is := b.take(wrong); is {
				t.Errorf("Take(%d): true", wrong)
			}
		}
		b.same()
	}
}

// P601: slots of a page are taken one by one, then those of the next page of that class, whatever stands between; then there are none.
func TestTakeOfSeveralPages(t *testing.T) {
	for c, n := range slots() {
		b := started(t, 6)
		for _, other := range []int{(c + 1) % 8, c, (c + 2) % 8, c, c} {
			b.grow(other)
		}
		for _, k := range []int{1, 3, 4} {
			for slot := range n {
				want := base + 32*k + slot*sizes()[c]
				if addr, is := b.take(c); addr != want || !is {
					t.Errorf("Take(%d): %d %t, not %d", c, addr, is, want)
				}
			}
			b.same()
		}
		for range 3 {
			b.take(c)
		}
		b.same()
		b.grow(c)
		b.take(c)
		b.same()
	}
}

// P601: a slot of the least page that was given back is taken ahead of those of later pages, and of pages that were never used.
func TestTakeAgain(t *testing.T) {
	for c, n := range slots() {
		b := started(t, 4)
		for range 3 {
			b.grow(c)
		}
		for range 2 * n {
			b.take(c)
		}
		second, first := base+32+(n-1)*sizes()[c], base+(n-1)*sizes()[c]
		b.free(second)
		b.free(first)
		for _, want := range []int{first, second, base + 64} {
			if addr, is := b.take(c); addr != want || !is {
				t.Errorf("Take(%d): %d %t, not %d", c, addr, is, want)
			}
		}
		b.same()
	}
}

// P601: the words of a slot that is taken are 0, also where another one was written; those beside it stay.
func TestTakeClears(t *testing.T) {
	for c, n := range slots() {
		for slot := range n {
			b := started(t, 3)
			for range 3 {
				b.grow(c)
			}
			b.fill(c)
			b.write()
			b.same()
			addr := base + 32 + slot*sizes()[c]
			b.free(addr)
			b.take(c)
			for w := range sizes()[c] {
				wantLoad(t, b.a, addr+w, 0, true)
			}
			b.same()
		}
	}
}

// P601: the words of a slot that is taken are 0, whatever stood there when its page was of another class.
func TestTakeClearsOtherClass(t *testing.T) {
	for before := range sizes() {
		for c := range sizes() {
			b := started(t, 1)
			b.grow(before)
			b.fill(before)
			b.write()
			for slot := range slots()[before] {
				b.free(base + slot*sizes()[before])
			}
			b.drop(0)
			b.same()
			b.grow(c)
			b.same()
			for range slots()[c] {
				b.take(c)
				b.same()
			}
			for w := range slots()[c] * sizes()[c] {
				wantLoad(t, b.a, base+w, 0, true)
			}
		}
	}
}

// P601: a used slot is given back where it begins, once; nothing else changes.
func TestFree(t *testing.T) {
	for c, n := range slots() {
		for slot := range n {
			b := started(t, 2)
			b.grow((c + 3) % 8)
			b.grow(c)
			b.fill(c)
			b.write()
			addr := base + 32 + slot*sizes()[c]
			wantFind(t, b.a, addr, addr, true)
			if !b.free(addr) {
				t.Errorf("Free(%d): false", addr)
			}
			b.same()
			if b.free(addr) {
				t.Errorf("Free(%d) again: true", addr)
			}
			b.same()
		}
	}
}

// P601: nothing is given back of an address at which no used slot begins: inside of one, behind the last one, not used, outside.
func TestFreeOfNone(t *testing.T) {
	for c, n := range slots() {
		b := started(t, 3)
		b.grow(c)
		for w := range 96 {
			b.free(base + w)
		}
		b.same()
		for range n - 1 {
			b.take(c)
		}
		for w := range 96 {
			if w%sizes()[c] == 0 && w/sizes()[c] < n-1 {
				continue
			}
			if b.free(base + w) {
				t.Errorf("class %d: Free at %d: true", c, w)
			}
		}
		for _, addr := range outside(3) {
			if b.free(addr) {
				t.Errorf("class %d: Free(%d): true", c, addr)
			}
		}
		b.same()
	}
}

// P601: the words of a slot that is given back stay: they are told again when the page itself gives it out.
func TestFreeKeepsWords(t *testing.T) {
	for c, n := range slots() {
		b := started(t, 1)
		b.grow(c)
		b.fill(c)
		b.write()
		for slot := range n {
			b.free(base + slot*sizes()[c])
			b.a.Page(0).Take()
			b.m.used[0][slot] = true
			b.same()
		}
	}
}

// P601: a page loses its class if it has one, and no used slot; with any that is used it stays as it was.
func TestDrop(t *testing.T) {
	for c, n := range slots() {
		b := started(t, 3)
		b.grow(c)
		b.grow(c)
		for slot := range n {
			b.take(c)
			addr := base + slot*sizes()[c]
			b.store(addr, 9)
			if b.drop(0) {
				t.Errorf("class %d: Drop with slot %d used: true", c, slot)
			}
			b.same()
		}
		for slot := range n {
			if b.drop(0) {
				t.Errorf("class %d: Drop with slots from %d on used: true", c, slot)
			}
			b.free(base + slot*sizes()[c])
		}
		b.same()
		for k, want := range []bool{true, true, false, false} {
			wantIs(t, "Drop", k, b.drop(k), want)
			wantIs(t, "Drop again", k, b.drop(k), false)
			b.same()
		}
	}
}

// P601: pages that are none are not dropped, and nothing changes.
func TestDropOfNone(t *testing.T) {
	b := started(t, 2)
	b.grow(5)
	for _, k := range append(farOut(), 1, 2, 3) {
		if b.drop(k) {
			t.Errorf("Drop(%d): true", k)
		}
	}
	b.same()
}

// P601: a page that was dropped is grown again, for another class, with no slot used.
func TestDropAndGrow(t *testing.T) {
	for before := range sizes() {
		for c := range sizes() {
			b := started(t, 2)
			b.grow(before)
			b.grow(before)
			b.take(before)
			b.free(base)
			if !b.drop(0) || !b.grow(c) {
				t.Errorf("from class %d to %d: false", before, c)
			}
			b.same()
			if addr, is := b.take(c); addr != base || !is {
				t.Errorf("from class %d to %d: %d %t", before, c, addr, is)
			}
			b.same()
		}
	}
}

// P601: what holds a page that was dropped holds nothing of the arena any more.
func TestDroppedPage(t *testing.T) {
	b := started(t, 1)
	b.grow(3)
	old := b.a.Page(0)
	b.drop(0)
	old.Take()
	b.same()
	b.grow(3)
	if b.a.Page(0) == old {
		t.Error("Page(0): the one that was dropped")
	}
	b.same()
}

// P602: words are told, and set, in used slots alone: of each class, with each set of neighbours used.
func TestWords(t *testing.T) {
	for c, n := range slots() {
		b := started(t, 4)
		for range 3 {
			b.grow(c)
		}
		b.write()
		b.same()
		for range 3 * n {
			b.take(c)
		}
		b.write()
		b.same()
		for slot := 0; slot < n; slot += 2 {
			b.free(base + 32 + slot*sizes()[c])
		}
		for w := range 128 {
			b.store(base+w, -w)
		}
		b.same()
		for _, addr := range outside(4) {
			if b.store(addr, 5) {
				t.Errorf("Store(%d): true", addr)
			}
		}
		b.same()
	}
}

// P602: a Store changes that one word alone.
func TestStoreOfOne(t *testing.T) {
	for c := range sizes() {
		b := started(t, 2)
		b.grow(c)
		b.grow(c)
		b.fill(c)
		for w := range 64 {
			b.store(base+w, w+1)
			b.sameWords()
		}
		for w := range 64 {
			b.store(base+w, 0)
			b.sameWords()
		}
	}
}

// P602: a Store outside of used slots changes no word: neither of slots that are not used nor behind the last slot.
func TestStoreOfNone(t *testing.T) {
	for c, n := range slots() {
		a := New(1)
		a.Grow(c)
		for w := range 32 {
			wantIs(t, "Store", base+w, a.Store(base+w, 7), false)
		}
		a.Take(c)
		for w := sizes()[c]; w < 32; w++ {
			wantIs(t, "Store", base+w, a.Store(base+w, 7), false)
		}
		a.Free(base)
		a.Drop(0)
		wantRaw(t, a, [32]int{})
		a.Grow(c)
		for range n {
			a.Take(c)
		}
		var want [32]int
		for w := range 32 {
			in := w < n*sizes()[c]
			if in {
				want[w] = 7
			}
			wantIs(t, "Store", base+w, a.Store(base+w, 7), in)
		}
		for slot := range n {
			a.Free(base + slot*sizes()[c])
		}
		a.Drop(0)
		wantRaw(t, a, want)
	}
}

// P602: a word is told as it was set, whatever it is.
func TestStoreOfAnyWord(t *testing.T) {
	b := started(t, 1)
	b.grow(7)
	b.take(7)
	for _, v := range append(farOut(), 0, 1, base, base+3, api.StackBase, math.MaxInt32, math.MinInt32, math.MaxInt32+1, math.MinInt32-1) {
		b.store(base+15, v)
		wantLoad(t, b.a, base+15, v, true)
		b.sameWords()
	}
}

// P602: Page is the arena's own: what is done to it is done to the arena, and it is the same one each time.
func TestPageIsItsOwn(t *testing.T) {
	b := started(t, 3)
	for c := range 3 {
		b.grow(c + 2)
	}
	for k := range 3 {
		p := b.a.Page(k)
		if p == nil || p != b.a.Page(k) {
			t.Fatalf("Page(%d): not one and the same", k)
		}
		slot, is := p.Take()
		if slot != 0 || !is {
			t.Errorf("page %d's Take: %d %t", k, slot, is)
		}
		b.m.used[k][0] = true
		b.same()
	}
	b.a.Page(1).Free(0)
	b.m.used[1][0] = false
	b.same()
	b.a.Page(2).Mark(0)
	wantIs(t, "Marked", 0, b.a.Page(2).Marked(0), true)
	b.a.Page(0).Sweep()
	b.m.used[0][0] = false
	b.same()
	b.drop(0)
	b.same()
}

// P601, P602: a page that was made a zero one is of no class, as a nil one.
func TestZeroPage(t *testing.T) {
	a := New(2)
	a.Grow(0)
	a.Grow(1)
	a.Take(0)
	*a.Page(0) = page.Page{}
	wantRoom(t, a, 1, 2)
	wantNothing(t, a, base)
	wantTake(t, a, -1, 0, false)
	wantTake(t, a, 0, 0, false)
	wantIs(t, "Drop", 0, a.Drop(0), false)
	wantBase(t, a, 0, 0, -1)
	wantIs(t, "Grow", 2, a.Grow(2), true)
	wantTake(t, a, 2, base, true)
	wantRoom(t, a, 0, 2)
}

// P602: Room goes down by each Grow and up by each Drop that answers true, and by no other.
func TestRoom(t *testing.T) {
	a := New(api.MaxPages)
	for k := range api.MaxPages {
		wantRoom(t, a, 64-k, 64)
		a.Grow(8)
		wantRoom(t, a, 64-k, 64)
		a.Grow(k % 8)
	}
	wantRoom(t, a, 0, 64)
	a.Grow(0)
	wantRoom(t, a, 0, 64)
	a.Take(0)
	for k := range api.MaxPages {
		a.Drop(k)
		wantRoom(t, a, k, 64)
	}
	a.Free(base)
	wantRoom(t, a, 63, 64)
	a.Drop(0)
	wantRoom(t, a, 64, 64)
	a.Drop(0)
	wantRoom(t, a, 64, 64)
}

// P602: All with none, some and all slots used, over several pages, is rising, whatever the order in which they were taken.
func TestAll(t *testing.T) {
	b := started(t, 10)
	for c := range sizes() {
		b.grow(7 - c)
	}
	b.same()
	for c := range sizes() {
		b.take(c)
		b.same()
	}
	for c := range sizes() {
		b.fill(c)
		b.same()
	}
	if got := len(b.a.All()); got != 79 {
		t.Errorf("All: %d, not 79", got)
	}
	for w := 0; w < 256; w += 5 {
		b.free(base + w)
		b.same()
	}
	if !slices.IsSorted(b.a.All()) {
		t.Errorf("All: %v is not rising", b.a.All())
	}
}

// P602: a list that was answered stays as it was, and what is written into it is nobody else's.
func TestAllIsNew(t *testing.T) {
	b := started(t, 3)
	b.grow(4)
	b.grow(6)
	b.take(6)
	b.take(4)
	b.take(4)
	first, second := b.a.All(), b.a.All()
	want := []int{base, base + 6, base + 32}
	b.store(base, 5)
	b.free(base + 6)
	b.free(base + 32)
	b.drop(1)
	b.grow(0)
	b.take(0)
	if !slices.Equal(first, want) {
		t.Errorf("the list that was answered: %v, not %v", first, want)
	}
	for i := range first {
		first[i] = -1
	}
	_ = append(first[:1], 0, 0)
	if !slices.Equal(second, want) {
		t.Errorf("the list beside it: %v, not %v", second, want)
	}
	b.same()
}

// P602: Base tells each slot of each class, used or not, and at the last page.
func TestBase(t *testing.T) {
	for c, n := range slots() {
		a := New(api.MaxPages)
		wantBase(t, a, 0, 0, -1)
		for range api.MaxPages {
			a.Grow(c)
		}
		for _, k := range []int{0, 1, 62, 63} {
			for slot := -2; slot < 40; slot++ {
				wantBase(t, a, k, slot, c)
			}
		}
		if got, want := a.Base(63, n-1), base+63*32+(n-1)*sizes()[c]; got != want {
			t.Errorf("Base(63, %d): %d, not %d", n-1, got, want)
		}
		a.Drop(63)
		wantBase(t, a, 63, 0, -1)
		wantBase(t, a, 64, 0, -1)
		// Slots so far out that their words would wrap round to 0.
		for _, slot := range []int{1 << 59, 1 << 60, 1 << 62, math.MinInt, -1 << 60} {
			wantBase(t, a, 0, slot, -1)
		}
	}
}

// wantEmpty holds every call, twice over, against an arena that has nothing.
func wantEmpty(t *testing.T, a *Arena) {
	t.Helper()
	for range 2 {
		for c := range 8 {
			wantIs(t, "Grow", c, a.Grow(c), false)
			wantTake(t, a, c, 0, false)
		}
		for _, addr := range append(outside(0), base+5) {
			wantNothing(t, a, addr)
			wantIs(t, "Store", addr, a.Store(addr, 1), false)
			wantIs(t, "Free", addr, a.Free(addr), false)
		}
		for _, k := range append(farOut(), 0, 1) {
			if a.Page(k) != nil {
				t.Errorf("Page(%d): not nil", k)
			}
			wantIs(t, "Grow", k, a.Grow(k), false)
			wantTake(t, a, k, 0, false)
			wantIs(t, "Drop", k, a.Drop(k), false)
			wantBase(t, a, k, 0, -1)
			wantBase(t, a, 0, k, -1)
		}
		wantRoom(t, a, 0, 0)
		if l := a.All(); len(l) != 0 {
			t.Errorf("All: %v", l)
		}
	}
}

// P602: a nil Arena has nothing; so has one of no pages, and a zero one.
func TestEmpty(t *testing.T) {
	wantEmpty(t, nil)
	wantEmpty(t, &Arena{})
	wantEmpty(t, New(0))
	wantEmpty(t, New(-3))
}

// P601, P602: long rows of calls in a mixed order answer what the plain model answers.
func TestMixedCalls(t *testing.T) {
	for pages := 1; pages <= 5; pages++ {
		b := started(t, pages)
		seed := uint32(pages)
		draw := func(n int) int {
			seed = seed*1664525 + 1013904223
			return int(seed>>8) % n
		}
		for i := range 3000 {
			addr := base + draw(32*pages+8) - 4
			switch what := draw(20); {
			case what < 2:
				b.grow(draw(10) - 1)
			case what < 8:
				b.take(draw(10) - 1)
			case what < 12:
				b.free(addr)
			case what < 16:
				b.store(addr, i+1)
			case what < 17:
				b.drop(draw(pages+2) - 1)
			default:
				// Whole slots are found by chance too seldom for pages to become empty.
				if l := b.a.All(); len(l) > 0 {
					b.free(l[draw(len(l))])
				}
			}
			if i%40 == 0 {
				b.same()
			}
		}
		b.same()
	}
}
