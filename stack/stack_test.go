package stack

import (
	"math"
	"slices"
	"testing"

	"besom/api"
)

const (
	wide   = api.MaxStack
	far    = 100_000 // the greatest serial
	enough = 1_000_000
)

// farOut has numbers at the ends of what an int may be, and near the bounds of narrower ones.
func farOut() []int {
	return []int{math.MinInt, math.MinInt + 1, -1 << 32, -1<<31 - 1, -1 << 31, -1 << 16, -1<<15 - 1, -129, -2, -1, 0, 1, 128, 255, 256, 1 << 15, 1 << 16, 1<<31 - 1, 1 << 31, 1<<32 - 1, 1 << 32, 1<<32 + 5, 1<<53 + 1, math.MaxInt - 1, math.MaxInt}
}

// baseOf tells plainly where the segment of a serial begins.
func baseOf(serial int) int {
	return api.StackBase + serial*api.StackGap
}

// numbered is a stack whose words are from+1, from+2 and so on.
func numbered(t *testing.T, serial, words, from int) *Stack {
	t.Helper()
	s := New(serial, words)
	for off := range words {
		wantStore(t, s, off, from+off+1, true)
	}
	return s
}

// wordsOf tells all words, as Load answers them.
func wordsOf(t *testing.T, s *Stack) []int {
	t.Helper()
	l := make([]int, s.Words())
	for off := range l {
		v, is := s.Load(off)
		if !is {
			t.Fatalf("Load(%d) of %d words: none", off, s.Words())
		}
		l[off] = v
	}
	return l
}

// wantForm holds where a stack begins and how many words it has.
func wantForm(t *testing.T, what string, s *Stack, base, words int) {
	t.Helper()
	if s == nil {
		t.Fatalf("%s: nil", what)
	}
	if s.Base() != base || s.Words() != words {
		t.Errorf("%s: %d words at %d, not %d at %d", what, s.Words(), s.Base(), words, base)
	}
}

func wantWords(t *testing.T, what string, s *Stack, want ...int) {
	t.Helper()
	if got := wordsOf(t, s); !slices.Equal(got, want) {
		t.Errorf("%s: %v, not %v", what, got, want)
	}
}

func wantLoad(t *testing.T, s *Stack, off, want int, wantIs bool) {
	t.Helper()
	if got, is := s.Load(off); got != want || is != wantIs {
		t.Errorf("Load(%d): %d %v, not %d %v", off, got, is, want, wantIs)
	}
}

func wantStore(t *testing.T, s *Stack, off, v int, want bool) {
	t.Helper()
	if got := s.Store(off, v); got != want {
		t.Errorf("Store(%d, %d): %v, not %v", off, v, got, want)
	}
}

func wantOff(t *testing.T, s *Stack, addr, want int, wantIs bool) {
	t.Helper()
	if got, is := s.Off(addr); got != want || is != wantIs {
		t.Errorf("Off(%d): %d %v, not %d %v", addr, got, is, want, wantIs)
	}
}

func wantAddr(t *testing.T, s *Stack, off, want int) {
	t.Helper()
	if got := s.Addr(off); got != want {
		t.Errorf("Addr(%d): %d, not %d", off, got, want)
	}
}

func wantMoved(t *testing.T, s, from *Stack, v, want int) {
	t.Helper()
	if got := s.Moved(from, v); got != want {
		t.Errorf("Moved(%d): %d, not %d", v, got, want)
	}
}

func wantFit(t *testing.T, first, need, want int) {
	t.Helper()
	if got := Fit(first, need); got != want {
		t.Errorf("Fit(%d, %d): %d, not %d", first, need, got, want)
	}
}

// The chapter's example.
func TestExample(t *testing.T) {
	first := New(0, 8)
	second := first.Copy(3, 16)
	wantMoved(t, second, first, first.Addr(5), api.StackBase+3*api.StackGap+5)
}

// The bases are shifted by as much as there is from one to the next.
func TestShift(t *testing.T) {
	if 1<<gapShift != api.StackGap {
		t.Errorf("1 << %d is not %d", gapShift, api.StackGap)
	}
}

// P1301: New has as many words as it is told, from 1 to MaxStack, and all of them are 0.
func TestNewWords(t *testing.T) {
	for words := 1; words <= wide; words++ {
		s := New(0, words)
		wantForm(t, "New", s, api.StackBase, words)
		wantLoad(t, s, 0, 0, true)
		wantLoad(t, s, words-1, 0, true)
		wantLoad(t, s, words, 0, false)
	}
	for _, words := range []int{1, 2, 7, wide} {
		wantWords(t, "New", New(5, words), make([]int, words)...)
	}
}

// P1301: less than 1 word is 1, more than MaxStack are MaxStack.
func TestNewWordsOfTheNearerEnd(t *testing.T) {
	for _, words := range append(farOut(), -5, 2, 3, wide-1, wide, wide+1, wide+2, 2*wide, 9999, 65536+3, 1<<32+7, -1<<32+7) {
		s := New(2, words)
		wantForm(t, "New", s, baseOf(2), min(max(words, 1), wide))
	}
	wantForm(t, "New of 0", New(0, 0), api.StackBase, 1)
	wantForm(t, "New of one less", New(0, -1), api.StackBase, 1)
	wantForm(t, "New of one more", New(0, 4097), api.StackBase, 4096)
}

// P1301: the base is StackBase, and serial times StackGap.
func TestNewBase(t *testing.T) {
	for serial := 0; serial <= far; serial++ {
		if got := New(serial, 1).Base(); got != baseOf(serial) {
			t.Fatalf("New(%d): at %d, not %d", serial, got, baseOf(serial))
		}
	}
	wantForm(t, "the first", New(0, 4), 1<<30, 4)
	wantForm(t, "the second", New(1, 4), 1<<30+8192, 4)
	wantForm(t, "the last", New(far, 4), 1<<30+819_200_000, 4)
}

// P1301: a serial below 0 is 0, one beyond 100,000 is that.
func TestNewBaseOfTheNearerEnd(t *testing.T) {
	for _, serial := range append(farOut(), -far, -5, 2, 3, far-1, far, far+1, far+2, 2*far, 1<<17, 1<<20, 1<<32+7, 1<<51, 1<<60, -1<<32+7) {
		wantForm(t, "New", New(serial, 3), baseOf(min(max(serial, 0), far)), 3)
	}
	wantForm(t, "New of both", New(math.MaxInt, math.MaxInt), baseOf(far), wide)
	wantForm(t, "New of neither", New(math.MinInt, math.MinInt), api.StackBase, 1)
}

// P1301: segments lie apart: no address is of two of them.
func TestSegmentsLieApart(t *testing.T) {
	for _, serial := range []int{0, 1, 2, 77, far - 1} {
		low, high := New(serial, wide), New(serial+1, wide)
		wantOff(t, high, low.Addr(wide-1), 0, false)
		wantOff(t, low, high.Addr(0), 0, false)
	}
}

// P1301: Load and Store have the first place and the last one, and none ahead of or behind them.
func TestLoadAndStore(t *testing.T) {
	for _, words := range []int{1, 2, 8, 100, wide} {
		s := New(1, words)
		want := make([]int, words)
		for off := range words {
			wantStore(t, s, off, 3*off-7, true)
			want[off] = 3*off - 7
		}
		wantWords(t, "behind Store", s, want...)
		for _, off := range append(farOut(), words-1, words, words+1, -words, wide, wide+1, s.Base(), s.Base()+1) {
			if off >= 0 && off < words {
				wantLoad(t, s, off, 3*off-7, true)
				continue
			}
			wantLoad(t, s, off, 0, false)
			wantStore(t, s, off, 9, false)
		}
		wantWords(t, "behind what has no place", s, want...)
	}
}

// P1301: a word is any number, as it is; what was stored last counts.
func TestAnyNumber(t *testing.T) {
	s := New(0, 3)
	for _, v := range farOut() {
		wantStore(t, s, 1, v, true)
		wantLoad(t, s, 1, v, true)
		wantWords(t, "Store", s, 0, v, 0)
	}
	wantStore(t, s, 1, 0, true)
	wantWords(t, "Store of 0", s, 0, 0, 0)
}

// P1301: Off and Addr are each other's way back, from the first address to the last one.
func TestOffAndAddr(t *testing.T) {
	for _, serial := range []int{0, 1, 9, far} {
		for _, words := range []int{1, 2, 8, wide} {
			s := New(serial, words)
			for off := range words {
				wantAddr(t, s, off, baseOf(serial)+off)
				wantOff(t, s, baseOf(serial)+off, off, true)
			}
		}
	}
}

// P1301: beside the first and the last one there is no place, and no address.
func TestOffAndAddrBeside(t *testing.T) {
	for _, serial := range []int{0, 1, 9, far} {
		for _, words := range []int{1, 2, 8, wide} {
			s := New(serial, words)
			for _, beside := range append(farOut(), -words, words, words+1, api.StackGap, -api.StackGap, 1<<40) {
				if beside >= 0 && beside < words {
					continue
				}
				wantAddr(t, s, beside, 0)
				wantOff(t, s, s.Base()+beside, 0, false)
			}
			for _, addr := range farOut() {
				if addr < s.Base() || addr >= s.Base()+words {
					wantOff(t, s, addr, 0, false)
				}
			}
			wantAddr(t, s, s.Base(), 0)
		}
	}
}

// P1301: Off and Addr ask for no word, and change none.
func TestOffAndAddrChangeNothing(t *testing.T) {
	s := numbered(t, 4, 5, 10)
	for off := -2; off < 8; off++ {
		s.Addr(off)
		s.Off(s.Base() + off)
		s.Moved(s, s.Base()+off)
	}
	wantWords(t, "behind them", s, 11, 12, 13, 14, 15)
	wantForm(t, "behind them", s, baseOf(4), 5)
}

// P1301: Copy has these words, as far as they have room, and 0 behind them.
func TestCopy(t *testing.T) {
	s := numbered(t, 2, 4, 0)
	wantWords(t, "to more", s.Copy(3, 7), 1, 2, 3, 4, 0, 0, 0)
	wantWords(t, "to one more", s.Copy(3, 5), 1, 2, 3, 4, 0)
	wantWords(t, "to as many", s.Copy(3, 4), 1, 2, 3, 4)
	wantWords(t, "to one fewer", s.Copy(3, 3), 1, 2, 3)
	wantWords(t, "to one", s.Copy(3, 1), 1)
	wantWords(t, "to none", s.Copy(3, 0), 1)
	wantWords(t, "to what is below", s.Copy(3, -8), 1)
	wantWords(t, "what was copied", s, 1, 2, 3, 4)
	wantForm(t, "what was copied", s, baseOf(2), 4)
}

// P1301: Copy's serial and words are New's, with the nearer ends.
func TestCopyIsAsNew(t *testing.T) {
	s := numbered(t, 7, 6, 20)
	for _, serial := range append(farOut(), 3, 7, far-1, far, far+1) {
		for _, words := range append(farOut(), 5, 6, 7, wide-1, wide, wide+1) {
			c, n := s.Copy(serial, words), New(serial, words)
			wantForm(t, "Copy", c, n.Base(), n.Words())
			want := make([]int, n.Words())
			copy(want, []int{21, 22, 23, 24, 25, 26})
			wantWords(t, "Copy", c, want...)
		}
	}
}

// P1301: what was copied and its copy are each its own, of the same serial and as many words too.
func TestCopyIsApart(t *testing.T) {
	for _, words := range []int{2, 4, 6} {
		s := numbered(t, 1, 4, 0)
		c := s.Copy(1, words)
		wantStore(t, c, 0, 99, true)
		wantStore(t, s, 1, 88, true)
		wantLoad(t, s, 0, 1, true)
		wantLoad(t, c, 1, 2, true)
		c.Clear(0, words)
		wantWords(t, "what was copied", s, 1, 88, 3, 4)
		s.Clear(0, 4)
		wantStore(t, c, 1, 5, true)
		wantWords(t, "what was copied", s, 0, 0, 0, 0)
	}
}

// P1301: there and back again: what had no room is 0.
func TestCopyThereAndBack(t *testing.T) {
	s := numbered(t, 0, 6, 0)
	wantWords(t, "by more", s.Copy(1, 12).Copy(2, 6), 1, 2, 3, 4, 5, 6)
	wantWords(t, "by fewer", s.Copy(1, 3).Copy(2, 6), 1, 2, 3, 0, 0, 0)
	wantWords(t, "by far more", s.Copy(1, wide).Copy(2, 7), 1, 2, 3, 4, 5, 6, 0)
}

// P1301: Moved of an address in the other one is that of the same place here.
func TestMovedWithin(t *testing.T) {
	for _, words := range []int{4, 5, 9} {
		from := numbered(t, 6, 4, 0)
		s := from.Copy(8, words)
		for off := range 4 {
			wantMoved(t, s, from, baseOf(6)+off, baseOf(8)+off)
		}
	}
}

// P1301: Moved of an address in the other one, whose place there is none of here, is 0.
func TestMovedWithoutPlace(t *testing.T) {
	from := New(6, 8)
	for words := 1; words <= 8; words++ {
		s := from.Copy(7, words)
		for off := range 8 {
			want := 0
			if off < words {
				want = baseOf(7) + off
			}
			wantMoved(t, s, from, baseOf(6)+off, want)
		}
	}
}

// P1301: Moved of what does not lie in the other one is that itself, an address of here too.
func TestMovedBeside(t *testing.T) {
	from, s := New(6, 8), New(8, 16)
	wantMoved(t, s, from, baseOf(6)-1, baseOf(6)-1)
	wantMoved(t, s, from, baseOf(6)+8, baseOf(6)+8)
	wantMoved(t, s, from, baseOf(6)+api.StackGap, baseOf(6)+api.StackGap)
	for off := -2; off < 18; off++ {
		wantMoved(t, s, from, baseOf(8)+off, baseOf(8)+off)
	}
	for _, v := range append(farOut(), api.HeapBase, api.HeapBase+5, api.StackBase, 77, 5) {
		wantMoved(t, s, from, v, v)
	}
}

// P1301: Moved hangs on where the two lie and how many words they have, not on their words.
func TestMovedHangsOnNoWord(t *testing.T) {
	from, s := numbered(t, 1, 3, 50), numbered(t, 2, 3, 900)
	for off := range 3 {
		wantMoved(t, s, from, from.Addr(off), s.Addr(off))
		wantMoved(t, from, s, s.Addr(off), from.Addr(off))
	}
	wantWords(t, "the other one", from, 51, 52, 53)
	wantWords(t, "this one", s, 901, 902, 903)
}

// P1301: Moved from itself is each number as it is.
func TestMovedFromItself(t *testing.T) {
	s := New(5, 6)
	for off := -3; off < 10; off++ {
		wantMoved(t, s, s, baseOf(5)+off, baseOf(5)+off)
	}
	for _, v := range farOut() {
		wantMoved(t, s, s, v, v)
	}
	short := s.Copy(5, 2)
	wantMoved(t, short, s, baseOf(5)+1, baseOf(5)+1)
	wantMoved(t, short, s, baseOf(5)+2, 0)
	wantMoved(t, s, short, baseOf(5)+2, baseOf(5)+2)
}

// P1301: Clear sets the words from from on and below to to 0, and no others.
func TestClear(t *testing.T) {
	const words = 5
	for from := -3; from < words+3; from++ {
		for to := -3; to < words+3; to++ {
			s := numbered(t, 3, words, 0)
			s.Clear(from, to)
			want := make([]int, words)
			for off := range want {
				if off < from || off >= to {
					want[off] = off + 1
				}
			}
			wantWords(t, "Clear", s, want...)
		}
	}
}

// P1301: Clear's bounds may be any numbers, and turned round.
func TestClearFarOut(t *testing.T) {
	for _, from := range append(farOut(), 2, 3) {
		for _, to := range append(farOut(), 2, 3) {
			s := numbered(t, 3, 3, 0)
			s.Clear(from, to)
			want := []int{1, 2, 3}
			for off := range want {
				if off >= from && off < to {
					want[off] = 0
				}
			}
			wantWords(t, "Clear", s, want...)
			wantForm(t, "Clear", s, baseOf(3), 3)
		}
	}
}

// P1301: Clear of nothing, of all, and again; what is cleared may be stored anew.
func TestClearAgain(t *testing.T) {
	s := numbered(t, 0, wide, 0)
	before := wordsOf(t, s)
	s.Clear(0, 0)
	s.Clear(wide, wide)
	s.Clear(7, 7)
	wantWords(t, "Clear of nothing", s, before...)
	for range 2 {
		s.Clear(0, wide)
		wantWords(t, "Clear of all", s, make([]int, wide)...)
	}
	wantStore(t, s, wide-1, 4, true)
	wantLoad(t, s, wide-1, 4, true)
}

// draw gives numbers that look mixed, the same ones each time.
type draw struct{ state uint64 }

func (d *draw) below(n int) int {
	d.state = d.state*6364136223846793005 + 1442695040888963407
	return int(d.state >> 33 % uint64(n))
}

// model is a stack told plainly.
type model struct {
	serial int
	words  []int
}

// P1301: drawn calls, each held against a plain model.
func TestDrawnCalls(t *testing.T) {
	for seed := range 60 {
		d := &draw{uint64(seed) * 977}
		m := model{d.below(9), make([]int, 1+d.below(12))}
		s := New(m.serial, len(m.words))
		for range 300 {
			s, m = drawnCall(t, d, s, m)
			wantForm(t, "drawn", s, baseOf(m.serial), len(m.words))
			wantWords(t, "drawn", s, m.words...)
		}
	}
}

// drawnCall calls something that changes a stack, or makes another one of it.
func drawnCall(t *testing.T, d *draw, s *Stack, m model) (*Stack, model) {
	t.Helper()
	off, v := d.below(18)-3, d.below(1000)-500
	switch d.below(5) {
	case 0:
		from, to := off, d.below(18)-3
		s.Clear(from, to)
		for k := range m.words {
			if k >= from && k < to {
				m.words[k] = 0
			}
		}
	case 1:
		next := model{d.below(9), make([]int, 1+d.below(14))}
		copy(next.words, m.words)
		c := s.Copy(next.serial, len(next.words))
		wantMoved(t, c, s, baseOf(m.serial)+off, plainMoved(m, next, baseOf(m.serial)+off))
		return c, next
	default:
		is := off >= 0 && off < len(m.words)
		wantStore(t, s, off, v, is)
		if is {
			m.words[off] = v
		}
	}
	return s, m
}

// plainMoved looks at each address of the one that was.
func plainMoved(from, to model, v int) int {
	for off := range from.words {
		if v != baseOf(from.serial)+off {
			continue
		}
		if off < len(to.words) {
			return baseOf(to.serial) + off
		}
		return 0
	}
	return v
}

// P1302: Fit is first, where that is enough.
func TestFitOfFirst(t *testing.T) {
	for _, first := range []int{1, 2, 3, 8, 100, wide, enough - 1, enough} {
		for _, need := range append(farOut(), first-1, first) {
			if need <= first {
				wantFit(t, first, need, first)
			}
		}
	}
}

// P1302: Fit doubles first, once and often.
func TestFitDoubles(t *testing.T) {
	wantFit(t, 8, 8, 8)
	wantFit(t, 8, 9, 16)
	wantFit(t, 8, 16, 16)
	wantFit(t, 8, 17, 32)
	wantFit(t, 8, 33, 64)
	wantFit(t, 3, 7, 12)
	wantFit(t, 1, 2, 2)
	wantFit(t, 1, 3, 4)
	wantFit(t, 1, 4096, 4096)
	wantFit(t, 1, 4097, 8192)
	wantFit(t, 5, 5*1024, 5*1024)
	wantFit(t, 5, 5*1024+1, 5*2048)
	for first := 1; first < 40; first++ {
		for need := range 700 {
			want := first
			for want < need {
				want += want
			}
			wantFit(t, first, need, want)
		}
	}
}

// P1302: a first below 1 is 1.
func TestFitFirstBelow(t *testing.T) {
	for _, first := range []int{0, -1, -2, -3, -8, -enough, -1 << 31, -1 << 32, math.MinInt + 1, math.MinInt} {
		wantFit(t, first, 0, 1)
		wantFit(t, first, 1, 1)
		wantFit(t, first, 2, 2)
		wantFit(t, first, 5, 8)
		wantFit(t, first, math.MinInt, 1)
		wantFit(t, first, math.MaxInt, enough)
	}
}

// P1302: Fit is at most 1,000,000, whatever is needed and whatever first is.
func TestFitAtMost(t *testing.T) {
	wantFit(t, 1, 1<<19, 1<<19)
	wantFit(t, 1, 1<<19+1, enough)
	wantFit(t, 500_000, enough, enough)
	wantFit(t, 500_001, 500_002, enough)
	wantFit(t, 499_999, 500_000, 999_998)
	wantFit(t, 499_999, 999_998, 999_998)
	wantFit(t, 499_999, 999_999, enough)
	for _, first := range []int{1, 3, 8, 15_625, 600_000, enough - 1, enough} {
		for _, need := range []int{enough, enough + 1, 2 * enough, 1<<31 - 1, 1 << 31, 1 << 32, 1 << 62, math.MaxInt - 1, math.MaxInt} {
			wantFit(t, first, need, enough)
		}
	}
	for _, first := range []int{enough + 1, 2 * enough, 1 << 31, 1 << 32, 1 << 62, math.MaxInt/2 + 1, math.MaxInt - 1, math.MaxInt} {
		for _, need := range farOut() {
			wantFit(t, first, need, enough)
		}
	}
}

// wantNothing holds that a stack has nothing, and keeps nothing.
func wantNothing(t *testing.T, s *Stack) {
	t.Helper()
	for range 2 {
		if s.Base() != 0 || s.Words() != 0 {
			t.Errorf("%d words at %d, not 0 at 0", s.Words(), s.Base())
		}
		for _, v := range append(farOut(), api.StackBase, api.StackBase+1) {
			wantLoad(t, s, v, 0, false)
			wantStore(t, s, v, 7, false)
			wantOff(t, s, v, 0, false)
			wantAddr(t, s, v, 0)
			s.Clear(v, 5)
			s.Clear(0, v)
			if c := s.Copy(v, 5); c != nil {
				t.Errorf("Copy(%d, 5) is not nil", v)
			}
			if c := s.Copy(1, v); c != nil {
				t.Errorf("Copy(1, %d) is not nil", v)
			}
		}
	}
}

// P1302: a nil Stack answers 0, false and nil; so does a zero one.
func TestNilStack(t *testing.T) {
	wantNothing(t, nil)
	wantNothing(t, &Stack{})
}

// P1302: Moved from a nil Stack, or a zero one, is each number as it is.
func TestMovedFromNil(t *testing.T) {
	for _, from := range []*Stack{nil, {}} {
		for _, s := range []*Stack{New(0, 8), New(far, wide), nil, {}} {
			for _, v := range append(farOut(), api.StackBase, api.StackBase+3, api.HeapBase, 77) {
				wantMoved(t, s, from, v, v)
			}
		}
	}
}

// P1302: a nil Stack's Moved is 0, of what lies in the other one and of what does not; a zero one's too.
func TestMovedToNil(t *testing.T) {
	from := New(2, 8)
	for _, s := range []*Stack{nil, {}} {
		for _, v := range append(farOut(), baseOf(2)-1, baseOf(2), baseOf(2)+7, baseOf(2)+8, api.HeapBase, 77) {
			wantMoved(t, s, from, v, 0)
		}
	}
}
