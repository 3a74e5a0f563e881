package page

import (
	"math"
	"slices"
	"testing"

	"besom/api"
)

// slots has each class's number of slots, written out by hand.
func slots() []int { return []int{32, 16, 10, 8, 5, 4, 2, 2} }

// strangers has numbers that are no class, and no slot of any page either but for those from 8 to 31.
func strangers() []int {
	return []int{-1, -2, -8, -32, -64, 8, 9, 16, 31, 32, 33, 63, 64, 65, 128, 1 << 32, -1 << 32, math.MaxInt, math.MaxInt - 1, math.MinInt, math.MinInt + 1}
}

// wrong has slots that a page of so many has not.
func wrong(n int) []int {
	l := []int{n, n + 1}
	for _, k := range strangers() {
		if k < 0 || k >= n {
			l = append(l, k)
		}
	}
	return l
}

func made(t *testing.T, c int) *Page {
	t.Helper()
	p, e := New(c)
	if p == nil || e != api.OK {
		t.Fatalf("New(%d): %v, error %d", c, p, e)
	}
	return p
}

// full has all slots of a class used.
func full(t *testing.T, c int) *Page {
	t.Helper()
	p := made(t, c)
	for k := range slots()[c] {
		wantTake(t, p, k, true)
	}
	return p
}

func wantTake(t *testing.T, p *Page, want int, wantIs bool) {
	t.Helper()
	if k, is := p.Take(); k != want || is != wantIs {
		t.Errorf("Take: %d %t, not %d %t", k, is, want, wantIs)
	}
}

func wantIs(t *testing.T, what string, slot int, got, want bool) {
	t.Helper()
	if got != want {
		t.Errorf("%s(%d): %t, not %t", what, slot, got, want)
	}
}

func wantList(t *testing.T, what string, got []int, want ...int) {
	t.Helper()
	if !slices.Equal(got, want) {
		t.Errorf("%s: %v, not %v", what, got, want)
	}
}

// wantState holds all that a page tells of itself, and of slots that it has not, against what is wanted.
func wantState(t *testing.T, p *Page, c int, used, marked []int) {
	t.Helper()
	n := slots()[c]
	if got := p.Class(); got != c {
		t.Errorf("Class: %d, not %d", got, c)
	}
	if all, count := p.Count(); all != n || count != len(used) {
		t.Errorf("Count: %d %d, not %d %d", all, count, n, len(used))
	}
	wantList(t, "All", p.All(), used...)
	for k := range n {
		wantIs(t, "Used", k, p.Used(k), slices.Contains(used, k))
		wantIs(t, "Marked", k, p.Marked(k), slices.Contains(marked, k))
	}
	for _, k := range wrong(n) {
		wantIs(t, "Used", k, p.Used(k), false)
		wantIs(t, "Marked", k, p.Marked(k), false)
	}
}

// rising has the numbers from 0 on, so many.
func rising(n int) []int {
	l := make([]int, n)
	for k := range l {
		l[k] = k
	}
	return l
}

// P501: the example of the chapter.
func TestExample(t *testing.T) {
	p := made(t, 4)
	wantTake(t, p, 0, true)
	wantTake(t, p, 1, true)
	wantIs(t, "Mark", 1, p.Mark(1), true)
	wantList(t, "Sweep", p.Sweep(), 0)
	wantState(t, p, 4, []int{1}, nil)
}

// P501: a new page of each class has no slot that is used.
func TestNew(t *testing.T) {
	for c := range slots() {
		wantState(t, made(t, c), c, nil, nil)
	}
}

// P501: there is no page of what is no class.
func TestNewOfNoClass(t *testing.T) {
	for _, c := range strangers() {
		if p, e := New(c); p != nil || e != api.ErrArg {
			t.Errorf("New(%d): %v, error %d", c, p, e)
		}
	}
}

// P501: slots are taken one by one, the least one first, till all are used; then none is, however often it is tried.
func TestTakeAll(t *testing.T) {
	for c, n := range slots() {
		p := made(t, c)
		for k := range n {
			wantState(t, p, c, rising(k), nil)
			wantTake(t, p, k, true)
		}
		for range 3 {
			wantTake(t, p, 0, false)
			wantState(t, p, c, rising(n), nil)
		}
	}
}

// P501: a full page whose slots are marked gives none out, and keeps the marks.
func TestTakeOfMarkedPage(t *testing.T) {
	for c, n := range slots() {
		p := full(t, c)
		for k := range n {
			wantIs(t, "Mark", k, p.Mark(k), true)
		}
		wantTake(t, p, 0, false)
		wantState(t, p, c, rising(n), rising(n))
	}
}

// P501: each slot of a full page, freed, is the one that is taken next.
func TestTakeAgain(t *testing.T) {
	for c, n := range slots() {
		p := full(t, c)
		for k := range n {
			wantIs(t, "Free", k, p.Free(k), true)
			wantState(t, p, c, slices.Delete(rising(n), k, k+1), nil)
			wantTake(t, p, k, true)
			wantTake(t, p, 0, false)
		}
		wantState(t, p, c, rising(n), nil)
	}
}

// P501: of several slots that were freed the least one is taken first, in whatever order they were freed.
func TestTakeLeast(t *testing.T) {
	p := full(t, 0)
	for _, k := range []int{17, 31, 3, 0, 30} {
		wantIs(t, "Free", k, p.Free(k), true)
	}
	for _, k := range []int{0, 3, 17, 30, 31} {
		wantTake(t, p, k, true)
	}
	wantTake(t, p, 0, false)
	// Where some were never taken, one that was freed below them comes ahead of them.
	p = made(t, 3)
	for k := range 4 {
		wantTake(t, p, k, true)
	}
	wantIs(t, "Free", 2, p.Free(2), true)
	wantTake(t, p, 2, true)
	wantTake(t, p, 4, true)
	wantState(t, p, 3, rising(5), nil)
}

// P501: a slot is freed once; its neighbours stay as they were.
func TestFree(t *testing.T) {
	for c, n := range slots() {
		for k := range n {
			p := full(t, c)
			for j := range n {
				p.Mark(j)
			}
			others := slices.Delete(rising(n), k, k+1)
			wantIs(t, "Free", k, p.Free(k), true)
			wantState(t, p, c, others, others)
			wantIs(t, "Free again", k, p.Free(k), false)
			wantState(t, p, c, others, others)
		}
	}
}

// P501: a slot that was freed with a mark is not marked when it is taken again, and may be marked again.
func TestFreeOfMarked(t *testing.T) {
	for c, n := range slots() {
		p := full(t, c)
		last := n - 1
		wantIs(t, "Mark", last, p.Mark(last), true)
		wantIs(t, "Free", last, p.Free(last), true)
		wantIs(t, "Marked", last, p.Marked(last), false)
		wantTake(t, p, last, true)
		wantState(t, p, c, rising(n), nil)
		wantIs(t, "Mark", last, p.Mark(last), true)
		wantState(t, p, c, rising(n), []int{last})
	}
}

// P501: what is freed without being used, of a new page and behind the slots that are used, changes nothing.
func TestFreeOfUnused(t *testing.T) {
	for c, n := range slots() {
		p := made(t, c)
		for k := range n {
			wantIs(t, "Free", k, p.Free(k), false)
		}
		p.Take()
		p.Mark(0)
		wantIs(t, "Free", n-1, p.Free(n-1), false)
		wantState(t, p, c, []int{0}, []int{0})
	}
}

// P501: slots that a page has not are neither freed nor marked, and change nothing.
func TestWrongSlots(t *testing.T) {
	for c, n := range slots() {
		p := full(t, c)
		p.Mark(0)
		for _, k := range wrong(n) {
			wantIs(t, "Free", k, p.Free(k), false)
			wantIs(t, "Mark", k, p.Mark(k), false)
		}
		wantState(t, p, c, rising(n), []int{0})
	}
}

// P501: a used slot is marked once; its neighbours stay as they were.
func TestMark(t *testing.T) {
	for c, n := range slots() {
		for k := range n {
			p := full(t, c)
			wantIs(t, "Mark", k, p.Mark(k), true)
			wantState(t, p, c, rising(n), []int{k})
			wantIs(t, "Mark again", k, p.Mark(k), false)
			wantState(t, p, c, rising(n), []int{k})
		}
	}
}

// P501: a slot that is not used is not marked, not even once it is taken.
func TestMarkOfUnused(t *testing.T) {
	for c, n := range slots() {
		p := made(t, c)
		for k := range n {
			wantIs(t, "Mark", k, p.Mark(k), false)
		}
		wantState(t, p, c, nil, nil)
		for k := range n {
			wantTake(t, p, k, true)
		}
		wantState(t, p, c, rising(n), nil)
		wantIs(t, "Free", 1, p.Free(1), true)
		wantIs(t, "Mark", 1, p.Mark(1), false)
	}
}

// P501: where none is marked all that are used go; where none is used, nothing does.
func TestSweepOfUnmarked(t *testing.T) {
	for c, n := range slots() {
		p := made(t, c)
		wantList(t, "Sweep of none", p.Sweep())
		for k := range n {
			wantTake(t, p, k, true)
		}
		wantList(t, "Sweep", p.Sweep(), rising(n)...)
		wantState(t, p, c, nil, nil)
		wantList(t, "Sweep again", p.Sweep())
		wantTake(t, p, 0, true)
	}
}

// P501: where all are marked none goes, but their marks do: the next sweep takes them all.
func TestSweepOfMarked(t *testing.T) {
	for c, n := range slots() {
		p := full(t, c)
		for k := range n {
			p.Mark(k)
		}
		wantList(t, "Sweep", p.Sweep())
		wantState(t, p, c, rising(n), nil)
		wantIs(t, "Mark", 0, p.Mark(0), true)
		p.Free(0)
		wantList(t, "Sweep again", p.Sweep(), rising(n)[1:]...)
		wantState(t, p, c, nil, nil)
	}
}

// P501: where some are marked the others go, rising, whatever the order of the marks; those that were not used are not told.
func TestSweepOfSome(t *testing.T) {
	p := full(t, 0)
	for _, k := range []int{31, 5, 0} {
		p.Mark(k)
	}
	p.Free(7)
	p.Free(30)
	gone := slices.DeleteFunc(rising(32), func(k int) bool { return slices.Contains([]int{0, 5, 7, 30, 31}, k) })
	wantList(t, "Sweep", p.Sweep(), gone...)
	wantState(t, p, 0, []int{0, 5, 31}, nil)
	wantTake(t, p, 1, true)
	wantIs(t, "Mark", 5, p.Mark(5), true)
	wantList(t, "Sweep again", p.Sweep(), 0, 1, 31)
	wantState(t, p, 0, []int{5}, nil)
	wantList(t, "Sweep once more", p.Sweep(), 5)
	wantState(t, p, 0, nil, nil)
}

// P501: every set of marks among the used slots of a small page.
func TestSweepOfEachSet(t *testing.T) {
	const n = 5
	for set := range 1 << n {
		p := full(t, 4)
		var kept, gone []int
		for k := range n {
			if set>>k&1 == 1 {
				p.Mark(k)
				kept = append(kept, k)
			} else {
				gone = append(gone, k)
			}
		}
		wantState(t, p, 4, rising(n), kept)
		wantList(t, "Sweep", p.Sweep(), gone...)
		wantState(t, p, 4, kept, nil)
		wantList(t, "Sweep again", p.Sweep(), kept...)
		wantState(t, p, 4, nil, nil)
	}
}

// model is a page told plainly: a list of slots, each with what is said of it.
type model []struct{ used, marked bool }

func (m model) take() (int, bool) {
	for k := range m {
		if !m[k].used {
			m[k].used = true
			return k, true
		}
	}
	return 0, false
}

func (m model) free(k int) bool {
	if k < 0 || k >= len(m) {
		return false
	}
	was := m[k].used
	m[k].used, m[k].marked = false, false
	return was
}

func (m model) mark(k int) bool {
	if k < 0 || k >= len(m) || !m[k].used || m[k].marked {
		return false
	}
	m[k].marked = true
	return true
}

func (m model) sweep() []int {
	var gone []int
	for k := range m {
		if m[k].used && !m[k].marked {
			gone = append(gone, k)
			m[k].used = false
		}
		m[k].marked = false
	}
	return gone
}

func (m model) lists() (used, marked []int) {
	for k := range m {
		if m[k].used {
			used = append(used, k)
		}
		if m[k].marked {
			marked = append(marked, k)
		}
	}
	return used, marked
}

// P501: long rows of calls in a mixed order answer what the plain model answers.
func TestMixedCalls(t *testing.T) {
	for c, n := range slots() {
		p, m := made(t, c), make(model, n)
		seed := uint32(c + 1)
		for range 600 {
			seed = seed*1664525 + 1013904223
			k := int(seed>>8)%(n+4) - 2
			switch what := seed >> 24 % 16; {
			case what < 7:
				want, is := m.take()
				wantTake(t, p, want, is)
			case what < 10:
				wantIs(t, "Free", k, p.Free(k), m.free(k))
			case what < 15:
				wantIs(t, "Mark", k, p.Mark(k), m.mark(k))
			default:
				wantList(t, "Sweep", p.Sweep(), m.sweep()...)
			}
			used, marked := m.lists()
			wantState(t, p, c, used, marked)
		}
	}
}

// P501: a list that was answered stays as it was, whatever is done to the page.
func TestListsStay(t *testing.T) {
	p := full(t, 4)
	p.Mark(1)
	p.Mark(4)
	all := p.All()
	gone := p.Sweep()
	left := p.All()
	p.Take()
	p.Free(1)
	last := p.Sweep()
	p.Take()
	p.Take()
	wantList(t, "the first All", all, 0, 1, 2, 3, 4)
	wantList(t, "the first Sweep", gone, 0, 2, 3)
	wantList(t, "the second All", left, 1, 4)
	wantList(t, "the last Sweep", last, 0, 4)
}

// P501: a list that was answered is nobody else's: writing into it changes neither the page nor what is answered later.
func TestListsAreNew(t *testing.T) {
	p := full(t, 4)
	p.Mark(2)
	one, other := p.All(), p.All()
	overwrite(one)
	wantList(t, "All beside it", other, 0, 1, 2, 3, 4)
	wantState(t, p, 4, rising(5), []int{2})
	gone := p.Sweep()
	overwrite(gone)
	wantState(t, p, 4, []int{2}, nil)
	wantList(t, "All ahead of it", other, 0, 1, 2, 3, 4)
	wantList(t, "Sweep", p.Sweep(), 2)
}

// overwrite fills a list, and the room behind it.
func overwrite(l []int) {
	l = l[:cap(l)]
	for k := range l {
		l[k] = 77
	}
}

// P501: pages stand beside each other.
func TestPagesApart(t *testing.T) {
	p, q := full(t, 4), made(t, 4)
	p.Mark(3)
	wantState(t, q, 4, nil, nil)
	q.Take()
	q.Sweep()
	wantState(t, p, 4, rising(5), []int{3})
}

// P501: a nil Page has nothing; a zero one is as a nil one (the document's rule 5).
func TestNilAndZero(t *testing.T) {
	for _, p := range []*Page{nil, {}} {
		for range 2 {
			if c := p.Class(); c != -1 {
				t.Errorf("Class: %d", c)
			}
			wantTake(t, p, 0, false)
			for _, k := range append(strangers(), rising(34)...) {
				wantIs(t, "Mark", k, p.Mark(k), false)
				wantIs(t, "Free", k, p.Free(k), false)
				wantIs(t, "Used", k, p.Used(k), false)
				wantIs(t, "Marked", k, p.Marked(k), false)
			}
			wantList(t, "Sweep", p.Sweep())
			wantList(t, "All", p.All())
			if n, used := p.Count(); n != 0 || used != 0 {
				t.Errorf("Count: %d %d", n, used)
			}
		}
	}
}
