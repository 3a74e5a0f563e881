package sieve

import (
	"math"
	"slices"
	"testing"
)

// upTo lists the numbers from from on and below to.
func upTo(from, to int) []int {
	var l []int
	for k := from; k < to; k++ {
		l = append(l, k)
	}
	return l
}

func wantInt(t *testing.T, what string, got, want int) {
	t.Helper()
	if got != want {
		t.Errorf("%s: %d, not %d", what, got, want)
	}
}

func wantList(t *testing.T, what string, got []int, want ...int) {
	t.Helper()
	if !slices.Equal(got, want) {
		t.Errorf("%s: %v, not %v", what, got, want)
	}
}

func wantWord(t *testing.T, what string, got, want uint64) {
	t.Helper()
	if got != want {
		t.Errorf("%s: %#x, not %#x", what, got, want)
	}
}

// P101: the example of the chapter.
func TestExample(t *testing.T) {
	s := New(70)
	wantInt(t, "Put", s.Put(3, 66, 3, 70), 2)
	wantInt(t, "Next", s.Next(4), 66)
	wantWord(t, "Word", s.Word(1), 4)
}

// P101: New is for the numbers 0 to n less 1, n brought to 0 to 4096, and holds none.
func TestNewSizes(t *testing.T) {
	sizes := []struct{ n, room int }{
		{math.MinInt, 0}, {-1, 0}, {0, 0}, {1, 1}, {2, 2}, {63, 63}, {64, 64}, {65, 65}, {127, 127}, {128, 128}, {129, 129},
		{4095, 4095}, {4096, 4096}, {4097, 4096}, {math.MaxInt, 4096},
	}
	for _, x := range sizes {
		s := New(x.n)
		wantInt(t, "Count of a new one", s.Count(), 0)
		wantInt(t, "Next of a new one", s.Next(0), -1)
		wantList(t, "All of a new one", s.All())
		wantInt(t, "Put of all", s.Put(upTo(-3, 4200)...), x.room)
		wantInt(t, "Count of a full one", s.Count(), x.room)
		wantList(t, "All of a full one", s.All(), upTo(0, x.room)...)
		wantInt(t, "Gap of a full one", s.Gap(0), -1)
		wantInt(t, "Cut of all", s.Cut(upTo(-3, 4200)...), x.room)
		wantInt(t, "Count of an emptied one", s.Count(), 0)
	}
}

// P101: two sets have nothing in common.
func TestNewApart(t *testing.T) {
	a, b := New(80), New(80)
	a.Put(1, 70)
	wantInt(t, "Count of the other", b.Count(), 0)
	b.Put(2)
	b.Clear()
	wantList(t, "All of the first", a.All(), 1, 70)
}

// P101: Put counts those that were not in it, each once, and none that may not be.
func TestPut(t *testing.T) {
	s := New(100)
	wantInt(t, "none", s.Put(), 0)
	wantInt(t, "three", s.Put(5, 64, 99), 3)
	wantInt(t, "some again", s.Put(64, 6, 5), 1)
	wantInt(t, "one twice", s.Put(7, 7, 7), 1)
	wantInt(t, "may not be", s.Put(-1, 100, 127, 128, -64, math.MinInt, math.MaxInt, 1<<40), 0)
	wantInt(t, "mixed", s.Put(-1, 8, 100, 8, 9), 2)
	wantList(t, "All", s.All(), 5, 6, 7, 8, 9, 64, 99)
	wantWord(t, "no bit behind the last number", s.Word(1), 1|1<<35)
}

// P101: Cut counts those that were in it, each once.
func TestCut(t *testing.T) {
	s := New(100)
	s.Put(0, 5, 63, 64, 99)
	wantInt(t, "none", s.Cut(), 0)
	wantInt(t, "not in it", s.Cut(1, 65), 0)
	wantInt(t, "one twice", s.Cut(5, 5), 1)
	wantInt(t, "may not be", s.Cut(-1, 100, 128, math.MinInt, math.MaxInt), 0)
	wantInt(t, "mixed", s.Cut(-1, 63, 1, 99, 63, 5), 2)
	wantList(t, "All", s.All(), 0, 64)
	wantInt(t, "Put behind it", s.Put(5, 64), 1)
}

// Neither Put nor Cut writes into the list that it is given.
func TestArgumentsStand(t *testing.T) {
	l := []int{9, -1, 3, 9, 500}
	s := New(20)
	s.Put(l...)
	s.Cut(l...)
	wantList(t, "the list", l, 9, -1, 3, 9, 500)
}

// P101: Has.
func TestHas(t *testing.T) {
	s := New(130)
	s.Put(0, 63, 64, 129)
	for k := -70; k < 300; k++ {
		want := k == 0 || k == 63 || k == 64 || k == 129
		if s.Has(k) != want {
			t.Errorf("Has(%d): %v", k, !want)
		}
	}
	for _, k := range []int{math.MinInt, math.MaxInt, 1 << 40} {
		if s.Has(k) {
			t.Errorf("Has(%d): true", k)
		}
	}
}

// P101: Next, from below 0, across words and past the end.
func TestNext(t *testing.T) {
	s := New(200)
	s.Put(3, 63, 64, 199)
	rows := []struct{ from, want int }{
		{math.MinInt, 3}, {-1, 3}, {0, 3}, {3, 3}, {4, 63}, {63, 63}, {64, 64}, {65, 199}, {128, 199}, {199, 199},
		{200, -1}, {255, -1}, {256, -1}, {math.MaxInt, -1},
	}
	for _, x := range rows {
		wantInt(t, "Next", s.Next(x.from), x.want)
	}
	s.Cut(199)
	wantInt(t, "Next behind the last", s.Next(65), -1)
}

// P101: Gap, from below 0, across words and past the end; what may not be in it is no gap.
func TestGap(t *testing.T) {
	s := New(70)
	s.Put(upTo(0, 70)...)
	s.Cut(10, 65)
	rows := []struct{ from, want int }{
		{math.MinInt, 10}, {-1, 10}, {0, 10}, {10, 10}, {11, 65}, {64, 65}, {65, 65}, {66, -1}, {69, -1}, {70, -1}, {math.MaxInt, -1},
	}
	for _, x := range rows {
		wantInt(t, "Gap", s.Gap(x.from), x.want)
	}
	wantInt(t, "Gap of an empty one", New(5).Gap(-5), 0)
	wantInt(t, "Gap at the last of an empty one", New(5).Gap(4), 4)
	wantInt(t, "Gap past the last of an empty one", New(5).Gap(5), -1)
	wantInt(t, "Gap of one for nothing", New(0).Gap(0), -1)
}

// P101: each list that All answers is new.
func TestAllIsNew(t *testing.T) {
	s := New(10)
	s.Put(2, 1, 7)
	l := s.All()
	wantList(t, "All", l, 1, 2, 7)
	l[0] = 99
	wantList(t, "All again", s.All(), 1, 2, 7)
	s.Put(0)
	wantList(t, "the list answered before", l, 99, 2, 7)
}

// P101: Word, the least number lowest, 0 where there is none.
func TestWord(t *testing.T) {
	s := New(4096)
	s.Put(0, 63, 65, 4032, 4095)
	wantWord(t, "the first", s.Word(0), 1|1<<63)
	wantWord(t, "the second", s.Word(1), 2)
	wantWord(t, "an empty one", s.Word(2), 0)
	wantWord(t, "the last", s.Word(63), 1|1<<63)
	for _, k := range []int{-1, 64, math.MinInt, math.MaxInt, 1 << 58, 1 << 40} {
		wantWord(t, "none", s.Word(k), 0)
	}
}

// P101: Clear takes all out, and nothing of what may be.
func TestClear(t *testing.T) {
	s := New(70)
	s.Put(0, 64, 69)
	s.Clear()
	wantInt(t, "Count", s.Count(), 0)
	wantList(t, "All", s.All())
	wantInt(t, "Put behind it", s.Put(69, 70), 1)
	wantInt(t, "Next", s.Next(0), 69)
}

// P102: Mask, each end brought to 0 to 64.
func TestMask(t *testing.T) {
	ends := append(upTo(-3, 70), math.MinInt, math.MaxInt, 1<<40, -1<<40, 128)
	for _, from := range ends {
		for _, to := range ends {
			var want uint64
			for k := range 64 {
				if from <= k && k < to {
					want |= 1 << k
				}
			}
			if got := Mask(from, to); got != want {
				t.Errorf("Mask(%d, %d): %#x, not %#x", from, to, got, want)
			}
		}
	}
}

// P102: a nil Sieve answers 0, false, -1, none; one that is zero is as a nil one.
func TestNil(t *testing.T) {
	for _, s := range []*Sieve{nil, {}} {
		s.Clear()
		wantInt(t, "Put", s.Put(0, 1, -1), 0)
		wantInt(t, "Cut", s.Cut(0, 1, -1), 0)
		wantInt(t, "Next", s.Next(0), -1)
		wantInt(t, "Gap", s.Gap(0), -1)
		wantInt(t, "Gap below", s.Gap(-1), -1)
		wantInt(t, "Count", s.Count(), 0)
		wantList(t, "All", s.All())
		wantWord(t, "Word", s.Word(0), 0)
		if s.Has(0) {
			t.Error("Has: true")
		}
	}
}

// P101: in any order of calls the set is what a plain list of bools is.
func TestAgainstPlainList(t *testing.T) {
	seed := uint64(1)
	draw := func(n int) int {
		seed = seed*6364136223846793005 + 1442695040888963407
		return int(seed>>33) % n
	}
	for _, n := range []int{1, 31, 64, 70, 191, 192, 193} {
		s, plain := New(n), make([]bool, n)
		for range 2000 {
			k := draw(n+8) - 4
			inside := k >= 0 && k < n
			want := 0
			switch draw(12) {
			case 0, 1, 2, 3, 4, 5:
				if inside && !plain[k] {
					plain[k], want = true, 1
				}
				wantInt(t, "Put", s.Put(k, k), want)
			case 6, 7, 8, 9, 10:
				if inside && plain[k] {
					plain[k], want = false, 1
				}
				wantInt(t, "Cut", s.Cut(k, k), want)
			default:
				if draw(30) == 0 {
					s.Clear()
					clear(plain)
				}
			}
			holdAgainst(t, s, plain, k)
		}
	}
}

func holdAgainst(t *testing.T, s *Sieve, plain []bool, from int) {
	t.Helper()
	next, gap := -1, -1
	var all []int
	words := make([]uint64, len(plain)/64+2)
	for k, in := range plain {
		if in {
			all = append(all, k)
			words[k/64] |= 1 << (k % 64)
		}
		if in && k >= from && next < 0 {
			next = k
		}
		if !in && k >= from && gap < 0 {
			gap = k
		}
		if s.Has(k) != in {
			t.Errorf("Has(%d): %v", k, !in)
		}
	}
	wantInt(t, "Next", s.Next(from), next)
	wantInt(t, "Gap", s.Gap(from), gap)
	wantInt(t, "Count", s.Count(), len(all))
	wantList(t, "All", s.All(), all...)
	for k, w := range words {
		wantWord(t, "Word", s.Word(k), w)
	}
}
