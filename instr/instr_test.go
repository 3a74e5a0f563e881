package instr

import (
	"math"
	"slices"
	"testing"

	"besom/api"
)

// row is what the chapter says of an op: the operands it uses, those that are slots it reads, whether it reads arguments from C on, whether it sets s A, whether it is safe.
type row struct {
	op          int
	uses, reads string
	args, sets  bool
	safe        bool
}

func table() []row {
	return []row{
		{op: api.Nop},
		{op: api.SetInt, uses: "AB", sets: true},
		{op: api.Move, uses: "AB", reads: "B", sets: true},
		{op: api.Add, uses: "ABC", reads: "BC", sets: true},
		{op: api.Sub, uses: "ABC", reads: "BC", sets: true},
		{op: api.Mul, uses: "ABC", reads: "BC", sets: true},
		{op: api.Shl, uses: "ABC", reads: "BC", sets: true},
		{op: api.Shr, uses: "ABC", reads: "BC", sets: true},
		{op: api.Less, uses: "ABC", reads: "BC", sets: true},
		{op: api.Jump, uses: "B", safe: true},
		{op: api.If, uses: "AB", reads: "A", safe: true},
		{op: api.SetNil, uses: "AB", sets: true},
		{op: api.IsNil, uses: "AB", reads: "B", sets: true},
		{op: api.New, uses: "AB", sets: true, safe: true},
		{op: api.Load, uses: "ABC", reads: "B", sets: true},
		{op: api.Store, uses: "ABC", reads: "AC"},
		{op: api.GLoad, uses: "AB", sets: true},
		{op: api.GStore, uses: "AB", reads: "B"},
		{op: api.Addr, uses: "AB", sets: true},
		{op: api.LLoad, uses: "ABC", reads: "B", sets: true},
		{op: api.LStore, uses: "ABC", reads: "AC"},
		{op: api.Call, uses: "ABC", args: true, sets: true, safe: true},
		{op: api.Ret, uses: "A", safe: true},
		{op: api.Spawn, uses: "BC", args: true},
		{op: api.Defer, uses: "BC", args: true},
		{op: api.Panic, uses: "AB", reads: "AB"},
		{op: api.Recover, uses: "AB", sets: true},
		{op: api.Exit},
		{op: api.Yield, safe: true},
		{op: api.Output, uses: "A", reads: "A"},
	}
}

// noOps has numbers that are none of an op: next to the ends, far out, and such as become ops where they are cut to bytes, to 16 or to 32 bits.
func noOps() []int {
	l := []int{math.MinInt, math.MinInt + 1, -1 << 32, -1 << 31, -1<<16 + api.Add, -256, -255, -256 + api.Call, -29, -2, -1, 30, 31, 32, 63, 64, 100, 127, 128, 255, 256, 256 + api.SetInt, 256 + api.Call, 1 << 16, 1<<16 + api.New, 1 << 31, 1 << 32, 1<<32 + api.Add, 1<<32 + api.Ret, math.MaxInt - 1, math.MaxInt}
	for op := 30; op < 300; op++ {
		l = append(l, op)
	}
	return l
}

// in makes an instruction, its operands in the order of the chapter.
func in(op, a, b, c int) api.Instr { return api.Instr{Op: op, A: a, B: b, C: c} }

func wantBool(t *testing.T, what string, op int, got, want bool) {
	t.Helper()
	if got != want {
		t.Errorf("%s of op %d: %t, not %t", what, op, got, want)
	}
}

func wantReads(t *testing.T, i api.Instr, args int, want ...int) {
	t.Helper()
	if got := Reads(i, args); !slices.Equal(got, want) {
		t.Errorf("Reads(%v, %d): %v, not %v", i, args, got, want)
	}
}

func wantWrites(t *testing.T, i api.Instr, want int, wantIs bool) {
	t.Helper()
	if got, is := Writes(i); got != want || is != wantIs {
		t.Errorf("Writes(%v): %d %t, not %d %t", i, got, is, want, wantIs)
	}
}

// The table of the tests is whole: each op of the chapter, once.
func TestTableIsWhole(t *testing.T) {
	rows := table()
	if len(rows) != 30 {
		t.Fatalf("%d ops, not 30", len(rows))
	}
	for k, r := range rows {
		if r.op != k {
			t.Errorf("the row %d is of op %d", k, r.op)
		}
	}
}

// P901: each op of the table is Known, no other number is.
func TestKnown(t *testing.T) {
	for _, r := range table() {
		wantBool(t, "Known", r.op, Known(r.op), true)
	}
	for _, op := range noOps() {
		wantBool(t, "Known", op, Known(op), false)
	}
}

// has tells whether one of A, B, C stands in a text of them.
func has(names string, name rune) bool { return slices.Contains([]rune(names), name) }

func wantUses(t *testing.T, op int, names string) {
	t.Helper()
	a, b, c := Uses(op)
	wantBool(t, "Uses A", op, a, has(names, 'A'))
	wantBool(t, "Uses B", op, b, has(names, 'B'))
	wantBool(t, "Uses C", op, c, has(names, 'C'))
}

// P901: Uses are just those that the table names (of Call and Ret: A, too); of no op, none.
func TestUses(t *testing.T) {
	for _, r := range table() {
		wantUses(t, r.op, r.uses)
	}
	for _, op := range noOps() {
		wantUses(t, op, "")
	}
}

// picked has the operands of those names that were not there before, in their order.
func picked(names string, i api.Instr) []int {
	var l []int
	for _, n := range names {
		v := map[rune]int{'A': i.A, 'B': i.B, 'C': i.C}[n]
		if !slices.Contains(l, v) {
			l = append(l, v)
		}
	}
	return l
}

// operandSets has slots that are apart in rising, falling and mixed order, two and three that are the same, and numbers that are no slots.
func operandSets() [][3]int {
	return [][3]int{
		{7, 8, 9}, {9, 8, 7}, {8, 9, 7}, {0, 1, 2}, {2, 0, 1}, {15, 0, 3},
		{4, 4, 9}, {4, 9, 4}, {9, 4, 4}, {0, 0, 1}, {0, 1, 0}, {1, 0, 0},
		{5, 5, 5}, {0, 0, 0}, {15, 15, 15},
		{-1, -2, -3}, {-1, -1, -1}, {16, 255, 256}, {math.MaxInt, math.MinInt, math.MaxInt}, {math.MinInt, math.MaxInt, 0}, {1, 257, 1 << 32}, {1<<32 + 1, 1, 1},
	}
}

// argCounts has how many arguments are asked for, and what is the nearer end of it.
func argCounts() map[int]int {
	m := map[int]int{math.MinInt: 0, -1 << 32: 0, -1<<32 + 3: 0, -256: 0, -4: 0, -1: 0, 17: 16, 18: 16, 32: 16, 255: 16, 256: 16, 1 << 16: 16, 1 << 31: 16, 1 << 32: 16, 1<<32 + 2: 16, math.MaxInt: 16}
	for n := range api.MaxSlots + 1 {
		m[n] = n
	}
	return m
}

// P901: Reads are the slots that the table says are read, in the order of A, B, C, each once, whatever args is.
func TestReads(t *testing.T) {
	for _, r := range table() {
		if r.args {
			continue
		}
		for _, s := range operandSets() {
			i := in(r.op, s[0], s[1], s[2])
			for args := range argCounts() {
				wantReads(t, i, args, picked(r.reads, i)...)
			}
		}
	}
}

// P901: some of them, written out.
func TestReadsWrittenOut(t *testing.T) {
	wantReads(t, in(api.Add, 7, 8, 9), 0, 8, 9)
	wantReads(t, in(api.Add, 7, 9, 8), 0, 9, 8)
	wantReads(t, in(api.Less, 0, 5, 5), 0, 5)
	wantReads(t, in(api.Sub, 3, 3, 4), 0, 3, 4)
	wantReads(t, in(api.Store, 7, 8, 9), 0, 7, 9)
	wantReads(t, in(api.Store, 9, 8, 7), 0, 9, 7)
	wantReads(t, in(api.Store, 3, 0, 3), 0, 3)
	wantReads(t, in(api.LStore, 3, 3, 3), 0, 3)
	wantReads(t, in(api.Panic, 2, 1, 0), 0, 2, 1)
	wantReads(t, in(api.Panic, 2, 2, 0), 0, 2)
	wantReads(t, in(api.Move, 2, 1, 0), 0, 1)
	wantReads(t, in(api.GStore, 2, 1, 0), 0, 1)
	wantReads(t, in(api.If, 2, 1, 0), 0, 2)
	wantReads(t, in(api.Output, 2, 0, 0), 0, 2)
}

// P901: Call, Spawn and Defer read C and so on, as many as args (0 to MaxSlots: the nearer end), and neither A nor B.
func TestReadsOfArguments(t *testing.T) {
	for _, op := range []int{api.Call, api.Spawn, api.Defer} {
		for args, many := range argCounts() {
			for _, c := range []int{0, 1, 9, 15, 16, 240, 254, 255, 256, -1, -20, 1 << 31, math.MinInt, math.MaxInt - api.MaxSlots + 1} {
				var want []int
				for n := range many {
					want = append(want, c+n)
				}
				wantReads(t, in(op, 7, 8, c), args, want...)
				wantReads(t, in(op, c, c, c), args, want...)
			}
		}
	}
	wantReads(t, in(api.Call, 9, 9, 9), 2, 9, 10)
	wantReads(t, in(api.Spawn, 0, 9, 9), 1, 9)
	wantReads(t, in(api.Defer, 0, 8, 9), 3, 9, 10, 11)
}

// P901: with C at the greatest number there are as many as args all the same, from C on.
func TestReadsOfArgumentsAtTheEnd(t *testing.T) {
	for args, many := range argCounts() {
		got := Reads(in(api.Call, 0, 0, math.MaxInt), args)
		if len(got) != many || many > 0 && got[0] != math.MaxInt {
			t.Errorf("Reads with %d arguments: %v", args, got)
		}
	}
}

// P901: of Ret and of an op that is none there are none, whatever args is.
func TestReadsOfNothing(t *testing.T) {
	for _, op := range append(noOps(), api.Ret) {
		for _, s := range operandSets() {
			for args := range argCounts() {
				wantReads(t, in(op, s[0], s[1], s[2]), args)
			}
		}
	}
}

// Rules: an answer shares no memory with another one.
func TestReadsAreNew(t *testing.T) {
	for _, i := range []api.Instr{in(api.Add, 1, 2, 3), in(api.Call, 1, 2, 3)} {
		one, two := Reads(i, 2), Reads(i, 2)
		want := slices.Clone(two)
		one[0], one[1] = 90, 91
		_ = append(one, 92)
		if !slices.Equal(two, want) {
			t.Errorf("Reads(%v) became %v, was %v", i, two, want)
		}
		wantReads(t, i, 2, want...)
	}
}

// P901: Writes is A where a slot is set (of Recover and Call, too); else false, beside a zero.
func TestWrites(t *testing.T) {
	for _, r := range table() {
		for _, s := range operandSets() {
			want := 0
			if r.sets {
				want = s[0]
			}
			wantWrites(t, in(r.op, s[0], s[1], s[2]), want, r.sets)
		}
	}
	for _, op := range noOps() {
		wantWrites(t, in(op, 7, 8, 9), 0, false)
	}
	wantWrites(t, in(api.Recover, 7, 8, 0), 7, true)
	wantWrites(t, in(api.Call, 7, 8, 9), 7, true)
}

// P901: Safe are New, Call, Jump, If, Yield and Ret, and no other number.
func TestSafe(t *testing.T) {
	for _, r := range table() {
		wantBool(t, "Safe", r.op, Safe(r.op), r.safe)
	}
	for _, op := range []int{api.New, api.Call, api.Jump, api.If, api.Yield, api.Ret} {
		wantBool(t, "Safe", op, Safe(op), true)
	}
	for _, op := range noOps() {
		wantBool(t, "Safe", op, Safe(op), false)
	}
}

func wantLay(t *testing.T, l []api.Instr, want ...byte) {
	t.Helper()
	before := slices.Clone(l)
	if got, e := Lay(l...); got != string(want) || e != api.OK {
		t.Errorf("Lay(%v): %v %d, not %v", l, []byte(got), e, want)
	}
	if !slices.Equal(l, before) {
		t.Errorf("Lay: the list became %v, was %v", l, before)
	}
}

func wantNoLay(t *testing.T, l ...api.Instr) {
	t.Helper()
	before := slices.Clone(l)
	if got, e := Lay(l...); got != "" || e != api.ErrArg {
		t.Errorf("Lay(%v): %v %d, not ErrArg", l, []byte(got), e)
	}
	if !slices.Equal(l, before) {
		t.Errorf("Lay: the list became %v, was %v", l, before)
	}
}

func wantRead(t *testing.T, b string, want ...api.Instr) {
	t.Helper()
	if got, e := Read(b); !slices.Equal(got, want) || e != api.OK {
		t.Errorf("Read(%v): %v %d, not %v", []byte(b), got, e, want)
	}
}

func wantNoRead(t *testing.T, b string) {
	t.Helper()
	if got, e := Read(b); len(got) != 0 || e != api.ErrForm {
		t.Errorf("Read(%v): %v %d, not ErrForm", []byte(b), got, e)
	}
}

// withUsed makes an instruction of an op with these operands where they are used, and 0 elsewhere.
func withUsed(r row, a, b, c int) api.Instr {
	i := api.Instr{Op: r.op}
	if has(r.uses, 'A') {
		i.A = a
	}
	if has(r.uses, 'B') {
		i.B = b
	}
	if has(r.uses, 'C') {
		i.C = c
	}
	return i
}

// bytesOf has what the chapter says of an instruction's bytes.
func bytesOf(i api.Instr) []byte {
	b := uint32(i.B)
	return []byte{byte(i.Op), byte(i.A), byte(i.C), byte(b), byte(b >> 8), byte(b >> 16), byte(b >> 24)}
}

// The chapter's example, and Size.
func TestExample(t *testing.T) {
	wantLay(t, []api.Instr{in(api.SetInt, 1, -1, 0)}, 1, 1, 0, 255, 255, 255, 255)
	if Size != 7 {
		t.Errorf("Size: %d, not 7", Size)
	}
}

// P902: none has no bytes, and no bytes have none.
func TestNone(t *testing.T) {
	wantLay(t, nil)
	wantLay(t, []api.Instr{})
	wantRead(t, "")
}

// P902: of each op seven bytes: the op, A, C, then those of B, the lowest first; Read tells just that instruction.
func TestOneOfEach(t *testing.T) {
	for _, r := range table() {
		for _, a := range []int{0, 1, 127, 128, 254, 255} {
			for _, c := range []int{0, 2, 127, 128, 254, 255} {
				for _, b := range []int{0, 3, -1, 255, 256, 0x01020304, -0x01020304, 1<<31 - 1, 1<<31 - 2, -1 << 31, -1<<31 + 1} {
					i := withUsed(r, a, b, c)
					wantLay(t, []api.Instr{i}, bytesOf(i)...)
					wantRead(t, string(bytesOf(i)), i)
				}
			}
		}
	}
}

// P902: some bytes, written out.
func TestBytesWrittenOut(t *testing.T) {
	wantLay(t, []api.Instr{in(api.Add, 1, 2, 3), in(api.Exit, 0, 0, 0)}, 3, 1, 3, 2, 0, 0, 0, 27, 0, 0, 0, 0, 0, 0)
	wantLay(t, []api.Instr{in(api.Call, 255, 1<<31-1, 254)}, 21, 255, 254, 255, 255, 255, 127)
	wantLay(t, []api.Instr{in(api.SetInt, 0, -1<<31, 0)}, 1, 0, 0, 0, 0, 0, 128)
	wantLay(t, []api.Instr{in(api.Store, 4, 0x01020304, 5)}, 15, 4, 5, 4, 3, 2, 1)
	wantRead(t, "\x03\x01\x03\x02\x00\x00\x00\x1b\x00\x00\x00\x00\x00\x00", in(api.Add, 1, 2, 3), in(api.Exit, 0, 0, 0))
	wantRead(t, "\x0f\xff\xfe\x00\x00\x00\x80", in(api.Store, 255, -1<<31, 254))
}

// good has one instruction of each op, its operands apart.
func good() []api.Instr {
	var l []api.Instr
	for k, r := range table() {
		l = append(l, withUsed(r, k, -1000*k-7, 255-k))
	}
	return l
}

// P902: several are laid one behind the other, and read so.
func TestSeveral(t *testing.T) {
	l := good()
	var b []byte
	for n, i := range l {
		b = append(b, bytesOf(i)...)
		wantLay(t, l[:n+1], b...)
		wantRead(t, string(b), l[:n+1]...)
	}
	slices.Reverse(l)
	s, e := Lay(l...)
	if len(s) != len(l)*Size || e != api.OK {
		t.Fatalf("Lay: %d bytes, error %d", len(s), e)
	}
	wantRead(t, s, l...)
	wantRead(t, s+s, append(slices.Clone(l), l...)...)
}

// P902: many, as more than one byte or 16 bits count.
func TestMany(t *testing.T) {
	var l []api.Instr
	for n := range 70000 {
		l = append(l, in(api.SetInt, n%256, n*30011%(1<<31), 0))
	}
	s, e := Lay(l...)
	if len(s) != len(l)*Size || e != api.OK {
		t.Fatalf("Lay: %d bytes, error %d", len(s), e)
	}
	if got, e := Read(s); !slices.Equal(got, l) || e != api.OK {
		t.Errorf("Read: %d of them, error %d", len(got), e)
	}
}

// noBytes has numbers that no byte is; some become 0 or small ones where they are cut.
func noBytes() []int {
	return []int{math.MinInt, -1 << 32, -1<<31 - 1, -256, -255, -128, -2, -1, 256, 257, 511, 512, 1 << 16, 1 << 31, 1 << 32, 1<<32 + 5, 1 << 40, math.MaxInt}
}

// noWords has numbers that are not of 32 bits.
func noWords() []int {
	return []int{math.MinInt, math.MinInt + 5, -1 << 40, -1 << 32, -1<<32 + 1, -1<<31 - 2, -1<<31 - 1, 1 << 31, 1<<31 + 1, 1<<32 - 1, 1 << 32, 1<<32 + 1, 1 << 40, math.MaxInt}
}

// wrong has instructions that may not be laid, of every kind.
func wrong() []api.Instr {
	var l []api.Instr
	for _, op := range noOps() {
		l = append(l, in(op, 0, 0, 0), in(op, 1, 2, 3))
	}
	for _, r := range table() {
		i := withUsed(r, 3, 4, 5)
		for _, v := range noBytes() {
			l = append(l, in(i.Op, v, i.B, i.C), in(i.Op, i.A, i.B, v))
		}
		for _, v := range noWords() {
			l = append(l, in(i.Op, i.A, v, i.C))
		}
		for _, v := range []int{1, 2, 127, 128, 255} {
			if !has(r.uses, 'A') {
				l = append(l, in(i.Op, v, i.B, i.C))
			}
			if !has(r.uses, 'B') {
				l = append(l, in(i.Op, i.A, v, i.C), in(i.Op, i.A, -v, i.C), in(i.Op, i.A, v<<23, i.C))
			}
			if !has(r.uses, 'C') {
				l = append(l, in(i.Op, i.A, i.B, v))
			}
		}
	}
	return l
}

// P902: ErrArg of an op that is not Known, of A or C that is no byte, of B that is not Of itself, of one that is not used and is not 0.
func TestWrongInstructions(t *testing.T) {
	for _, i := range wrong() {
		wantNoLay(t, i)
	}
	wantNoLay(t, in(api.SetInt, 256, 0, 0))
	wantNoLay(t, in(api.SetInt, -1, 0, 0))
	wantNoLay(t, in(api.Add, 0, 0, 256))
	wantNoLay(t, in(api.Add, 0, 0, -1))
	wantNoLay(t, in(api.SetInt, 0, 1<<31, 0))
	wantNoLay(t, in(api.SetInt, 0, -1<<31-1, 0))
	wantNoLay(t, in(api.SetInt, 0, 0, 1))
	wantNoLay(t, in(api.Jump, 1, 0, 0))
	wantNoLay(t, in(api.Yield, 0, 1, 0))
	wantNoLay(t, in(api.Ret, 0, 1, 0))
	wantNoLay(t, in(api.Spawn, 1, 0, 0))
}

// P902: ErrArg wherever in the list it stands.
func TestWrongAnywhere(t *testing.T) {
	for _, i := range wrong() {
		wantNoLay(t, i, in(api.Nop, 0, 0, 0))
		wantNoLay(t, in(api.Add, 1, 2, 3), i, in(api.Nop, 0, 0, 0))
		wantNoLay(t, in(api.Add, 1, 2, 3), in(api.Exit, 0, 0, 0), i)
	}
	for k := range good() {
		l := good()
		l[k].A = 256
		wantNoLay(t, l...)
	}
}

// P902: ErrForm of bytes that are cut anywhere but behind a whole number of instructions, at either end.
func TestCutBytes(t *testing.T) {
	l := good()
	s, _ := Lay(l...)
	for n := range len(s) + 1 {
		if n%Size == 0 {
			wantRead(t, s[:n], l[:n/Size]...)
			wantRead(t, s[n:], l[n/Size:]...)
			continue
		}
		wantNoRead(t, s[:n])
		wantNoRead(t, s[n:])
	}
}

// P902: ErrForm of bytes with others added that are no instruction.
func TestAddedBytes(t *testing.T) {
	s, _ := Lay(good()...)
	added := ""
	for range Size - 1 {
		added += "\x00"
		wantNoRead(t, s+added)
		wantNoRead(t, added+s)
		wantNoRead(t, added)
	}
	wantRead(t, s+added+"\x00", append(good(), in(api.Nop, 0, 0, 0))...)
}

// P902: ErrForm of an op that is not Known, wherever it stands.
func TestReadOfNoOp(t *testing.T) {
	for op := 30; op < 256; op++ {
		b := string([]byte{byte(op), 0, 0, 0, 0, 0, 0})
		nop := "\x00\x00\x00\x00\x00\x00\x00"
		wantNoRead(t, b)
		wantNoRead(t, b+nop)
		wantNoRead(t, nop+b)
		wantNoRead(t, nop+b+nop)
	}
}

// P902: ErrForm of bytes that are not 0 where nothing is used; where something is used they are read.
func TestReadOfUnusedBytes(t *testing.T) {
	places := "ACBBBB"
	for _, r := range table() {
		for k, name := range places {
			for _, v := range []byte{1, 2, 127, 128, 255} {
				b := make([]byte, Size)
				b[0], b[1+k] = byte(r.op), v
				s := string(b)
				if has(r.uses, name) {
					l, e := Read(s)
					if len(l) != 1 || e != api.OK {
						t.Fatalf("Read(%v): %v %d", b, l, e)
					}
					wantLay(t, l, b...)
					continue
				}
				wantNoRead(t, s)
				wantNoRead(t, "\x1c\x00\x00\x00\x00\x00\x00"+s)
				wantNoRead(t, s+"\x1c\x00\x00\x00\x00\x00\x00")
			}
		}
	}
}

// P902: what is read is laid as it was, and what is laid is read as it was, for bytes of any kind.
func TestThereAndBack(t *testing.T) {
	seed := uint32(902)
	next := func() byte {
		seed = seed*1664525 + 1013904223
		return byte(seed >> 16)
	}
	read := 0
	for range 20000 {
		b := []byte{next() % 32, next(), next() * (next() % 2), next(), next(), next(), next()}
		l, e := Read(string(b))
		if e != api.OK {
			wantNoRead(t, string(b))
			continue
		}
		read++
		wantLay(t, l, b...)
	}
	if read < 1000 {
		t.Errorf("only %d were read", read)
	}
}

// Rules: lists that are answered share nothing with one another, nor with what was handed in.
func TestListsAreNew(t *testing.T) {
	l := good()
	s, _ := Lay(l...)
	one, _ := Read(s)
	two, _ := Read(s)
	for k := range one {
		one[k] = in(99, 99, 99, 99)
	}
	_ = append(one[:1], in(98, 98, 98, 98))
	if !slices.Equal(two, l) {
		t.Errorf("the second list became %v", two)
	}
	wantRead(t, s, l...)
	l[0] = in(api.Exit, 0, 0, 0)
	wantRead(t, s, good()...)
}
