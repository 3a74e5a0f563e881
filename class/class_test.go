package class

import (
	"math"
	"testing"

	"besom/api"
)

func wantInt(t *testing.T, what string, of, got, want int) {
	t.Helper()
	if got != want {
		t.Errorf("%s(%d): %d, not %d", what, of, got, want)
	}
}

func wantSlot(t *testing.T, c, word, want int, wantIs bool) {
	t.Helper()
	k, is := Slot(c, word)
	if k != want || is != wantIs {
		t.Errorf("Slot(%d, %d): %d %t, not %d %t", c, word, k, is, want, wantIs)
	}
}

// rows has each class's size, slots and tail, written out by hand.
func rows() []struct{ size, slots, tail int } {
	return []struct{ size, slots, tail int }{
		{1, 32, 0}, {2, 16, 0}, {3, 10, 2}, {4, 8, 0}, {6, 5, 2}, {8, 4, 0}, {12, 2, 8}, {16, 2, 0},
	}
}

// strangers has numbers that are no class.
func strangers() []int {
	return []int{-1, -2, -8, 8, 9, 10, 16, 63, 64, 65, 128, 1 << 32, -1 << 32, math.MaxInt, math.MaxInt - 1, math.MinInt, math.MinInt + 1}
}

// P301: the example of the chapter.
func TestExample(t *testing.T) {
	wantInt(t, "Of", 5, Of(5), 4)
	wantInt(t, "Slots", 4, Slots(4), 5)
	wantInt(t, "Tail", 4, Tail(4), 2)
	wantSlot(t, 4, 29, 4, true)
}

// P301: each class's size, slots and tail.
func TestClasses(t *testing.T) {
	wantInt(t, "Count", 0, Count, 8)
	wantInt(t, "rows", 0, len(rows()), Count)
	for c, r := range rows() {
		wantInt(t, "Size", c, Size(c), r.size)
		wantInt(t, "Slots", c, Slots(c), r.slots)
		wantInt(t, "Tail", c, Tail(c), r.tail)
	}
}

// P301: what is no class has no size, no slots, no tail and no words.
func TestNoClass(t *testing.T) {
	for _, c := range strangers() {
		wantInt(t, "Size", c, Size(c), 0)
		wantInt(t, "Slots", c, Slots(c), 0)
		wantInt(t, "Tail", c, Tail(c), 0)
		for word := -2; word < api.PageWords+2; word++ {
			wantSlot(t, c, word, 0, false)
		}
	}
}

// P301: the class of each number of words that a slot holds, and what it wastes.
func TestOfAndWaste(t *testing.T) {
	of := []int{0, 1, 2, 3, 4, 4, 5, 5, 6, 6, 6, 6, 7, 7, 7, 7}
	waste := []int{0, 0, 0, 0, 1, 0, 1, 0, 3, 2, 1, 0, 3, 2, 1, 0}
	for k := range of {
		wantInt(t, "Of", k+1, Of(k+1), of[k])
		wantInt(t, "Waste", k+1, Waste(k+1), waste[k])
	}
}

// P301: below 1 and above 16 words there is no class and no waste.
func TestOfNone(t *testing.T) {
	for _, words := range []int{0, -1, -2, -16, 17, 18, 24, 32, 33, 1 << 32, -1 << 32, math.MaxInt, math.MinInt, math.MinInt + 1} {
		wantInt(t, "Of", words, Of(words), -1)
		wantInt(t, "Waste", words, Waste(words), 0)
	}
}

// P301: every word of a page, counted off slot after slot; what is left behind the last is the tail.
func TestSlot(t *testing.T) {
	for c, r := range rows() {
		word := 0
		for k := range r.slots {
			for range r.size {
				wantSlot(t, c, word, k, true)
				word++
			}
		}
		wantInt(t, "words and tail", c, word+r.tail, api.PageWords)
		for ; word < api.PageWords; word++ {
			wantSlot(t, c, word, 0, false)
		}
	}
}

// P301: the last word of the last slot and the one behind it.
func TestSlotEdges(t *testing.T) {
	edges := []struct{ last, slot int }{{31, 31}, {31, 15}, {29, 9}, {31, 7}, {29, 4}, {31, 3}, {23, 1}, {31, 1}}
	for c, e := range edges {
		wantSlot(t, c, e.last, e.slot, true)
		wantSlot(t, c, e.last+1, 0, false)
	}
}

// P301: words outside of a page belong to no slot, of whichever class.
func TestSlotOutside(t *testing.T) {
	for c := range Count {
		for _, word := range []int{-1, -2, -16, -32, 32, 33, 47, 48, 64, 1 << 32, -1 << 32, math.MaxInt, math.MinInt} {
			wantSlot(t, c, word, 0, false)
		}
	}
}
