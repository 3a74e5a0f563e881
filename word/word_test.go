package word

import (
	"bytes"
	"math"
	"testing"

	"besom/api"
)

const (
	most  = 1<<31 - 1
	least = -1 << 31
)

func wantInt(t *testing.T, what string, got, want int) {
	t.Helper()
	if got != want {
		t.Errorf("%s: %d, not %d", what, got, want)
	}
}

func wantBool(t *testing.T, what string, got, want bool) {
	t.Helper()
	if got != want {
		t.Errorf("%s: %t, not %t", what, got, want)
	}
}

// P201: the example of the chapter.
func TestExample(t *testing.T) {
	wantInt(t, "Of", Of(1<<31), -2147483648)
	v, ok := Do(api.Shr, -8, 33)
	wantInt(t, "Shr", v, -4)
	wantBool(t, "Shr", ok, true)
}

// P201: Of keeps the lowest 32 bits; the highest of them is the sign.
func TestOf(t *testing.T) {
	rows := []struct{ v, want int }{
		{0, 0}, {1, 1}, {-1, -1}, {5, 5}, {-5, -5},
		{most, most}, {most + 1, least}, {most + 2, least + 1}, {least, least}, {least - 1, most}, {least - 2, most - 1},
		{1<<32 - 1, -1}, {1 << 32, 0}, {1<<32 + 7, 7}, {-1 << 32, 0}, {-1<<32 - 1, -1}, {-1<<32 + 7, 7},
		{0x123456789abcdef, -0x76543211}, {0x1234567801234567, 0x01234567},
		{math.MaxInt, -1}, {math.MinInt, 0}, {math.MinInt + 1, 1},
	}
	for _, r := range rows {
		wantInt(t, "Of", Of(r.v), r.want)
	}
}

type sum struct{ op, a, b, want int }

func runSums(t *testing.T, rows []sum) {
	t.Helper()
	for _, r := range rows {
		v, ok := Do(r.op, r.a, r.b)
		if v != r.want || !ok {
			t.Errorf("Do(%d, %d, %d): %d %t, not %d", r.op, r.a, r.b, v, ok, r.want)
		}
	}
}

// P201: Add, Sub and Mul wrap round, and take the lowest 32 bits of what they are given.
func TestReckoning(t *testing.T) {
	runSums(t, []sum{
		{api.Add, 2, 3, 5}, {api.Add, -2, -3, -5}, {api.Add, most, 1, least}, {api.Add, least, -1, most}, {api.Add, most, most, -2},
		{api.Add, 1<<32 + 2, 3, 5}, {api.Add, 2, 1<<32 + 3, 5}, {api.Add, math.MaxInt, math.MaxInt, -2}, {api.Add, math.MinInt, math.MinInt, 0},
		{api.Sub, 2, 3, -1}, {api.Sub, 3, 2, 1}, {api.Sub, least, 1, most}, {api.Sub, most, -1, least}, {api.Sub, 0, least, least},
		{api.Sub, 1<<32 + 2, 3, -1}, {api.Sub, math.MinInt, 1, -1}, {api.Sub, 1, 1 << 33, 1},
		{api.Mul, 6, 7, 42}, {api.Mul, -3, 5, -15}, {api.Mul, -3, -5, 15}, {api.Mul, 1 << 16, 1 << 16, 0}, {api.Mul, 1 << 16, 1 << 15, least},
		{api.Mul, most, most, 1}, {api.Mul, least, -1, least}, {api.Mul, least, least, 0}, {api.Mul, 1<<32 + 6, 1<<40 + 7, 42}, {api.Mul, math.MaxInt, 9, -9},
	})
}

// P201: a shift is by the lowest five bits of b; to the right the sign stays.
func TestShifts(t *testing.T) {
	runSums(t, []sum{
		{api.Shl, 1, 0, 1}, {api.Shl, 1, 4, 16}, {api.Shl, 1, 31, least}, {api.Shl, 3, 31, least}, {api.Shl, 2, 31, 0}, {api.Shl, 1, 32, 1}, {api.Shl, 1, 33, 2}, {api.Shl, 1, 63, least},
		{api.Shl, -1, 4, -16}, {api.Shl, -1, 31, least}, {api.Shl, least, 1, 0}, {api.Shl, most, 1, -2}, {api.Shl, 0x40000000, 1, least},
		{api.Shl, 5, -1, least}, {api.Shl, 5, -31, 10}, {api.Shl, 5, -32, 5}, {api.Shl, 5, math.MinInt, 5}, {api.Shl, 5, math.MaxInt, least}, {api.Shl, 1<<32 + 1, 1, 2}, {api.Shl, 1, 1<<32 + 3, 8},
		{api.Shr, 7, 0, 7}, {api.Shr, 7, 1, 3}, {api.Shr, 7, 3, 0}, {api.Shr, most, 31, 0}, {api.Shr, most, 30, 1}, {api.Shr, 8, 33, 4}, {api.Shr, 8, 32, 8},
		{api.Shr, -8, 1, -4}, {api.Shr, -7, 1, -4}, {api.Shr, -1, 31, -1}, {api.Shr, least, 31, -1}, {api.Shr, least, 30, -2}, {api.Shr, -8, 32, -8}, {api.Shr, -8, 35, -1},
		{api.Shr, 8, -31, 4}, {api.Shr, -5, -1, -1}, {api.Shr, 5, -32, 5}, {api.Shr, 1 << 31, 1, -1 << 30}, {api.Shr, 1 << 32, 1, 0}, {api.Shr, 1<<32 - 2, 1, -1}, {api.Shr, 8, 1<<40 + 2, 2},
	})
}

// P201: every distance of a shift, and more than one time round.
func TestShiftDistances(t *testing.T) {
	for b := -100; b <= 100; b++ {
		n := (b%32 + 32) % 32
		left, right := 3, -1<<31
		for range n {
			left, right = Of(left*2), right/2
		}
		runSums(t, []sum{{api.Shl, 3, b, left}, {api.Shr, -1 << 31, b, right}})
	}
}

// P201: Less is of the numbers of 32 bits, with their sign.
func TestLess(t *testing.T) {
	runSums(t, []sum{
		{api.Less, 4, 5, 1}, {api.Less, 5, 4, 0}, {api.Less, 5, 5, 0}, {api.Less, -1, 0, 1}, {api.Less, 0, -1, 0}, {api.Less, -2, -1, 1},
		{api.Less, least, most, 1}, {api.Less, most, least, 0}, {api.Less, 1 << 31, 0, 1}, {api.Less, 0, 1 << 31, 0}, {api.Less, 1 << 32, 1, 1}, {api.Less, 1, 1 << 32, 0}, {api.Less, math.MinInt, 0, 0}, {api.Less, math.MaxInt, 0, 1},
	})
}

// P201: every other op is told by false, beside a zero.
func TestOtherOps(t *testing.T) {
	ops := []int{math.MinInt, -1, math.MaxInt, api.Add + 1<<32, api.Less + 256}
	for op := range 64 {
		if op < api.Add || op > api.Less {
			ops = append(ops, op)
		}
	}
	for _, op := range ops {
		v, ok := Do(op, 7, 2)
		wantInt(t, "another op", v, 0)
		wantBool(t, "another op", ok, false)
	}
}

// P201: what looks like an address, at the edges; numbers are taken whole, not cut to 32 bits.
func TestAddresses(t *testing.T) {
	const end = api.HeapBase + api.MaxPages*api.PageWords
	rows := []struct {
		v           int
		heap, stack bool
	}{
		{math.MinInt, false, false}, {-api.HeapBase, false, false}, {-1, false, false}, {0, false, false},
		{api.HeapBase - 1, false, false}, {api.HeapBase, true, false}, {api.HeapBase + 1, true, false}, {end - 1, true, false}, {end, false, false}, {end + 1, false, false},
		{api.StackBase - 1, false, false}, {api.StackBase, false, true}, {api.StackBase + api.StackGap, false, true}, {most, false, true}, {most + 1, false, true}, {math.MaxInt, false, true},
		{1<<32 + api.HeapBase, false, true}, {-1<<32 + api.StackBase, false, false}, {-1<<32 + api.HeapBase, false, false},
	}
	for _, r := range rows {
		wantBool(t, "Heap", Heap(r.v), r.heap)
		wantBool(t, "Stack", Stack(r.v), r.stack)
	}
}

// P202: a number's bytes, the lowest first, and back.
func TestBytesAndRead(t *testing.T) {
	rows := []struct {
		v    int
		b    []byte
		back int
	}{
		{0, []byte{0, 0, 0, 0}, 0}, {1, []byte{1, 0, 0, 0}, 1}, {-1, []byte{255, 255, 255, 255}, -1}, {-2, []byte{254, 255, 255, 255}, -2}, {256, []byte{0, 1, 0, 0}, 256}, {1 << 23, []byte{0, 0, 128, 0}, 1 << 23},
		{0x01020304, []byte{4, 3, 2, 1}, 0x01020304}, {most, []byte{255, 255, 255, 127}, most}, {least, []byte{0, 0, 0, 128}, least},
		{1 << 31, []byte{0, 0, 0, 128}, least}, {1<<32 + 5, []byte{5, 0, 0, 0}, 5}, {math.MaxInt, []byte{255, 255, 255, 255}, -1}, {math.MinInt, []byte{0, 0, 0, 0}, 0}, {least - 1, []byte{255, 255, 255, 127}, most},
	}
	for _, r := range rows {
		b := Bytes(r.v)
		if !bytes.Equal(b, r.b) {
			t.Errorf("Bytes(%d): %v, not %v", r.v, b, r.b)
		}
		v, ok := Read(r.b)
		wantInt(t, "Read", v, r.back)
		wantBool(t, "Read", ok, true)
	}
}

// P202: fewer than four bytes are told by false; of more, the first four count.
func TestReadLengths(t *testing.T) {
	for _, b := range [][]byte{nil, {}, {1}, {1, 2}, {1, 2, 3}, make([]byte, 3, 8)} {
		v, ok := Read(b)
		wantInt(t, "Read of few", v, 0)
		wantBool(t, "Read of few", ok, false)
	}
	for _, b := range [][]byte{{4, 3, 2, 1}, {4, 3, 2, 1, 9}, {4, 3, 2, 1, 255, 255, 255, 255, 7}} {
		v, ok := Read(b)
		wantInt(t, "Read of more", v, 0x01020304)
		wantBool(t, "Read of more", ok, true)
	}
}

// P202: answers are new memory, and what is read stays as it was.
func TestNewMemory(t *testing.T) {
	a := Bytes(-2)
	b := Bytes(-2)
	a[0] = 9
	wantInt(t, "Bytes once more", int(b[0]), 254)
	in := []byte{1, 2, 3, 4, 5}
	Read(in)
	if !bytes.Equal(in, []byte{1, 2, 3, 4, 5}) {
		t.Errorf("Read wrote: %v", in)
	}
}
