package image

import (
	"math"
	"slices"
	"testing"

	"besom/api"
	"besom/instr"
)

func in(op, a, b, c int) api.Instr { return api.Instr{Op: op, A: a, B: b, C: c} }

// some makes a program with something of everything, all of it new.
func some() api.Program {
	return api.Program{
		Globals: []int{api.Int, api.Ptr + 1, api.Loc},
		Shapes:  []api.Shape{{Fields: []int{api.Int, api.Ptr}}, {}, {Fields: []int{api.Ptr + 2}}},
		Funcs: []api.Func{
			{Slots: 6, Objects: []int{2, 0}, Code: []api.Instr{in(api.SetInt, 1, -2, 0), in(api.Add, 3, 1, 2), in(api.Exit, 0, 0, 0)}},
			{Args: []int{api.Int, api.Loc + 1, api.Ptr}, Result: api.Ptr + 2, Slots: 5, Code: []api.Instr{in(api.Ret, 2, 0, 0)}},
			{Args: []int{api.Ptr}, Result: api.Int, Slots: 2, Objects: []int{1}},
		},
	}
}

// someBytes has what the chapter says of those.
func someBytes() []byte {
	return []byte{
		3, 1, 17, 64,
		3, 2, 1, 16, 0, 1, 18,
		3,
		0, 0, 6, 2, 2, 0, 3, 1, 1, 0, 254, 255, 255, 255, 3, 3, 2, 1, 0, 0, 0, 27, 0, 0, 0, 0, 0, 0,
		3, 1, 65, 16, 18, 5, 0, 1, 22, 2, 0, 0, 0, 0, 0,
		1, 16, 1, 2, 1, 1, 0,
	}
}

// small makes the program of the chapter's example.
func small() api.Program {
	return api.Program{Funcs: []api.Func{{Code: []api.Instr{in(api.Exit, 0, 0, 0)}}}}
}

// many makes lists as long as they may be, of the greatest numbers where they may be any.
func many() api.Program {
	p := api.Program{Globals: slices.Repeat([]int{255}, 255)}
	for k := range 255 {
		p.Shapes = append(p.Shapes, api.Shape{Fields: slices.Repeat([]int{255 - k}, k)})
		p.Funcs = append(p.Funcs, api.Func{
			Args:    slices.Repeat([]int{k}, 255-k),
			Result:  255,
			Slots:   k,
			Objects: slices.Repeat([]int{255}, k),
			Code:    slices.Repeat([]api.Instr{in(api.Jump, 0, k-100, 0)}, k),
		})
	}
	p.Shapes[0].Fields = slices.Repeat([]int{1}, 255)
	p.Funcs[0].Objects = slices.Repeat([]int{3}, 255)
	p.Funcs[0].Code = slices.Repeat([]api.Instr{in(api.Call, 255, -5, 255)}, 255)
	return p
}

// makers has programs, each new whenever it is made.
func makers() []func() api.Program {
	return []func() api.Program{
		some, small, many,
		func() api.Program { return api.Program{} },
		func() api.Program { return api.Program{Globals: []int{7}} },
		func() api.Program { return api.Program{Shapes: []api.Shape{{}}} },
		func() api.Program { return api.Program{Shapes: []api.Shape{{}, {}, {Fields: []int{0}}}} },
		func() api.Program { return api.Program{Funcs: []api.Func{{}}} },
		func() api.Program { return api.Program{Funcs: []api.Func{{}, {Result: 200}, {}}} },
		func() api.Program { return api.Program{Globals: []int{0, 255}, Funcs: []api.Func{{Slots: 255}}} },
	}
}

// plainBytes lays a program as the chapter says, whatever its numbers are.
func plainBytes(p api.Program) []byte {
	var b []byte
	list := func(l []int) {
		b = append(b, byte(len(l)))
		for _, v := range l {
			b = append(b, byte(v))
		}
	}
	list(p.Globals)
	b = append(b, byte(len(p.Shapes)))
	for _, s := range p.Shapes {
		list(s.Fields)
	}
	b = append(b, byte(len(p.Funcs)))
	for _, f := range p.Funcs {
		list(f.Args)
		b = append(b, byte(f.Result), byte(f.Slots))
		list(f.Objects)
		b = append(b, byte(len(f.Code)))
		for _, i := range f.Code {
			w := uint32(i.B)
			b = append(b, byte(i.Op), byte(i.A), byte(i.C), byte(w), byte(w>>8), byte(w>>16), byte(w>>24))
		}
	}
	return b
}

// isForm tells whether bytes are a program's, by going over them place by place.
func isForm(b []byte) (is bool) {
	defer func() {
		if recover() != nil {
			is = false // it looked behind the end
		}
	}()
	at := 0
	number := func() int { at++; return int(b[at-1]) }
	list := func(size int) []byte {
		n := number() * size
		at += n
		return b[at-n : at]
	}
	list(1)
	for range number() {
		list(1)
	}
	for range number() {
		list(1)
		at += 2
		list(1)
		if _, e := instr.Read(string(list(instr.Size))); e != api.OK {
			return false
		}
	}
	return at == len(b)
}

// alike holds programs against each other number by number, as Same should.
func alike(p, q api.Program) bool {
	if !slices.Equal(p.Globals, q.Globals) || len(p.Shapes) != len(q.Shapes) || len(p.Funcs) != len(q.Funcs) {
		return false
	}
	for k, s := range p.Shapes {
		if !slices.Equal(s.Fields, q.Shapes[k].Fields) {
			return false
		}
	}
	for k, f := range p.Funcs {
		g := q.Funcs[k]
		if !slices.Equal(f.Args, g.Args) || f.Result != g.Result || f.Slots != g.Slots || !slices.Equal(f.Objects, g.Objects) || !slices.Equal(f.Code, g.Code) {
			return false
		}
	}
	return true
}

// numberPlaces has where a program's numbers stand that have one byte each.
func numberPlaces(p *api.Program) []*int {
	var l []*int
	list := func(ns []int) {
		for k := range ns {
			l = append(l, &ns[k])
		}
	}
	list(p.Globals)
	for _, s := range p.Shapes {
		list(s.Fields)
	}
	for k := range p.Funcs {
		f := &p.Funcs[k]
		list(f.Args)
		l = append(l, &f.Result, &f.Slots)
		list(f.Objects)
	}
	return l
}

// codePlaces has where its instructions' numbers stand.
func codePlaces(p *api.Program) []*int {
	var l []*int
	for _, f := range p.Funcs {
		for k := range f.Code {
			i := &f.Code[k]
			l = append(l, &i.Op, &i.A, &i.B, &i.C)
		}
	}
	return l
}

// numberLists has where its lists of numbers stand.
func numberLists(p *api.Program) []*[]int {
	l := []*[]int{&p.Globals}
	for k := range p.Shapes {
		l = append(l, &p.Shapes[k].Fields)
	}
	for k := range p.Funcs {
		l = append(l, &p.Funcs[k].Args, &p.Funcs[k].Objects)
	}
	return l
}

func wantLay(t *testing.T, make func() api.Program, want []byte) {
	t.Helper()
	p := make()
	if got, e := Lay(p); got != string(want) || e != api.OK {
		t.Errorf("Lay: %v %d, not %v", []byte(got), e, want)
	}
	if !alike(p, make()) {
		t.Errorf("Lay changed the program to %v", p)
	}
}

func wantNoLay(t *testing.T, what string, p api.Program) {
	t.Helper()
	if got, e := Lay(p); got != "" || e != api.ErrArg {
		t.Errorf("Lay of %s: %d bytes, error %d, not ErrArg", what, len(got), e)
	}
}

func wantRead(t *testing.T, b []byte, want api.Program) {
	t.Helper()
	if got, e := Read(string(b)); !alike(got, want) || e != api.OK {
		t.Errorf("Read(%v): %v %d, not %v", b, got, e, want)
	}
}

func wantNoRead(t *testing.T, b []byte) {
	t.Helper()
	if got, e := Read(string(b)); !alike(got, api.Program{}) || e != api.ErrForm {
		t.Errorf("Read(%v): %v %d, not ErrForm", b, got, e)
	}
}

// wantJust holds Read of any bytes to what they are.
func wantJust(t *testing.T, b []byte) {
	t.Helper()
	if !isForm(b) {
		wantNoRead(t, b)
		return
	}
	p, e := Read(string(b))
	if e != api.OK || !slices.Equal(plainBytes(p), b) {
		t.Errorf("Read(%v): %v %d", b, p, e)
	}
}

// The chapter's example.
func TestExample(t *testing.T) {
	b := []byte{0, 0, 1, 0, 0, 0, 0, 1, 27, 0, 0, 0, 0, 0, 0}
	wantLay(t, small, b)
	wantRead(t, b, small())
}

// P1001: a program with nothing in it has three counts of 0, whether its lists are nil or empty.
func TestNothing(t *testing.T) {
	wantLay(t, func() api.Program { return api.Program{} }, []byte{0, 0, 0})
	wantLay(t, func() api.Program {
		return api.Program{Globals: []int{}, Shapes: []api.Shape{}, Funcs: []api.Func{}}
	}, []byte{0, 0, 0})
	wantRead(t, []byte{0, 0, 0}, api.Program{})
}

// P1001: each byte stands where the chapter says.
func TestSome(t *testing.T) {
	wantLay(t, some, someBytes())
	wantRead(t, someBytes(), some())
}

// P1001: one thing at a time, written out.
func TestOneAtATime(t *testing.T) {
	for _, c := range []struct {
		p api.Program
		b []byte
	}{
		{api.Program{Globals: []int{9}}, []byte{1, 9, 0, 0}},
		{api.Program{Globals: []int{9, 8, 7}}, []byte{3, 9, 8, 7, 0, 0}},
		{api.Program{Shapes: []api.Shape{{}}}, []byte{0, 1, 0, 0}},
		{api.Program{Shapes: []api.Shape{{Fields: []int{5, 6}}, {}, {Fields: []int{4}}}}, []byte{0, 3, 2, 5, 6, 0, 1, 4, 0}},
		{api.Program{Funcs: []api.Func{{}}}, []byte{0, 0, 1, 0, 0, 0, 0, 0}},
		{api.Program{Funcs: []api.Func{{Args: []int{5, 6}}}}, []byte{0, 0, 1, 2, 5, 6, 0, 0, 0, 0}},
		{api.Program{Funcs: []api.Func{{Result: 5}}}, []byte{0, 0, 1, 0, 5, 0, 0, 0}},
		{api.Program{Funcs: []api.Func{{Slots: 5}}}, []byte{0, 0, 1, 0, 0, 5, 0, 0}},
		{api.Program{Funcs: []api.Func{{Objects: []int{5, 6}}}}, []byte{0, 0, 1, 0, 0, 0, 2, 5, 6, 0}},
		{api.Program{Funcs: []api.Func{{Code: []api.Instr{in(api.Store, 4, 5, 6)}}}}, []byte{0, 0, 1, 0, 0, 0, 0, 1, 15, 4, 6, 5, 0, 0, 0}},
		{api.Program{Funcs: []api.Func{{}, {Slots: 2}}}, []byte{0, 0, 2, 0, 0, 0, 0, 0, 0, 0, 2, 0, 0}},
	} {
		wantLay(t, func() api.Program { return c.p }, c.b)
		wantRead(t, c.b, c.p)
	}
}

// P1001: every one of the programs is laid as the chapter says, and read as it was.
func TestThereAndBack(t *testing.T) {
	for _, make := range makers() {
		b := plainBytes(make())
		wantLay(t, make, b)
		wantRead(t, b, make())
	}
}

// noBytes has numbers that no byte is; some become small ones where they are cut.
func noBytes() []int {
	return []int{math.MinInt, -1 << 32, -1 << 16, -256, -255, -128, -2, -1, 256, 257, 511, 512, 1 << 16, 1<<16 + 1, 1 << 31, 1 << 32, 1<<32 + 5, math.MaxInt}
}

// P1001: a kind, a result, a number of slots, an object, wherever it stands, may be 0 to 255.
func TestNumbers(t *testing.T) {
	q := some()
	for k := range numberPlaces(&q) {
		with := func(v int) api.Program {
			p := some()
			*numberPlaces(&p)[k] = v
			return p
		}
		for v := range 256 {
			make := func() api.Program { return with(v) }
			wantLay(t, make, plainBytes(make()))
			wantRead(t, plainBytes(make()), make())
		}
		for _, v := range noBytes() {
			wantNoLay(t, "a number that is no byte", with(v))
		}
	}
}

// P1001: of each list there may be 0 to 255.
func TestNumbersOfNumbers(t *testing.T) {
	q := some()
	for k := range numberLists(&q) {
		for _, n := range []int{0, 1, 127, 128, 254, 255, 256, 257, 511, 512, 1 << 16, 1<<16 + 2} {
			with := func() api.Program {
				p := some()
				*numberLists(&p)[k] = slices.Repeat([]int{3}, n)
				return p
			}
			if n > 255 {
				wantNoLay(t, "a list that is too long", with())
				continue
			}
			wantLay(t, with, plainBytes(with()))
			wantRead(t, plainBytes(with()), with())
		}
	}
}

// P1001: of shapes, functions and instructions, too.
func TestNumbersOfOthers(t *testing.T) {
	for _, change := range []func(p *api.Program, n int){
		func(p *api.Program, n int) { p.Shapes = slices.Repeat([]api.Shape{{Fields: []int{1}}}, n) },
		func(p *api.Program, n int) { p.Shapes = make([]api.Shape, n) },
		func(p *api.Program, n int) { p.Funcs = slices.Repeat(some().Funcs[:1], n) },
		func(p *api.Program, n int) { p.Funcs = make([]api.Func, n) },
		func(p *api.Program, n int) { p.Funcs[0].Code = slices.Repeat([]api.Instr{in(api.Jump, 0, 7, 0)}, n) },
		func(p *api.Program, n int) { p.Funcs[2].Code = make([]api.Instr, n) },
	} {
		for _, n := range []int{0, 1, 127, 128, 254, 255, 256, 257, 512, 1 << 16} {
			with := func() api.Program {
				p := some()
				change(&p, n)
				return p
			}
			if n > 255 {
				wantNoLay(t, "too many", with())
				continue
			}
			wantLay(t, with, plainBytes(with()))
			wantRead(t, plainBytes(with()), with())
		}
	}
}

// wrongInstr has instructions whose bytes may not be.
func wrongInstr() []api.Instr {
	return []api.Instr{
		in(-1, 0, 0, 0), in(30, 0, 0, 0), in(255, 0, 0, 0), in(256, 0, 0, 0), in(256+api.Exit, 0, 0, 0),
		in(api.SetInt, -1, 0, 0), in(api.SetInt, 256, 0, 0), in(api.Add, 0, 0, -1), in(api.Add, 0, 0, 256),
		in(api.SetInt, 0, 1<<31, 0), in(api.SetInt, 0, -1<<31-1, 0), in(api.Jump, 0, 1<<32, 0),
		in(api.Nop, 1, 0, 0), in(api.Exit, 0, 1, 0), in(api.SetInt, 0, 0, 1), in(api.Spawn, 1, 0, 0),
	}
}

// P1001: ErrArg of an instruction that instr refuses, wherever it stands.
func TestWrongInstructions(t *testing.T) {
	for _, i := range wrongInstr() {
		for f := range some().Funcs {
			for at := range len(some().Funcs[f].Code) + 1 {
				p := some()
				p.Funcs[f].Code = slices.Insert(p.Funcs[f].Code, at, i)
				wantNoLay(t, "a wrong instruction", p)
			}
		}
		p := small()
		p.Funcs[0].Code = append(slices.Repeat(p.Funcs[0].Code, 254), i)
		wantNoLay(t, "a wrong instruction behind others", p)
	}
}

// P1001: ErrArg if more than one is wrong, and if what stands behind it is as it should be.
func TestSeveralWrong(t *testing.T) {
	p := some()
	for _, v := range numberPlaces(&p) {
		*v = -1
	}
	wantNoLay(t, "all wrong numbers", p)
	for _, v := range codePlaces(&p) {
		*v = 1 << 40
	}
	wantNoLay(t, "all wrong numbers and code", p)
	p = some()
	p.Globals[0] = 256
	p.Funcs[0].Code = nil
	wantNoLay(t, "a wrong kind ahead of a function with no code", p)
	p = small()
	p.Funcs[0].Slots = -1
	wantNoLay(t, "wrong slots ahead of code", p)
	p.Funcs[0].Code = make([]api.Instr, 256)
	wantNoLay(t, "wrong slots ahead of too much code", p)
}

// P1001: ErrForm of no bytes, of too few, cut at either end.
func TestCutBytes(t *testing.T) {
	wantNoRead(t, nil)
	for _, b := range [][]byte{{0}, {0, 0}, {1}, {1, 0}, {1, 0, 0}, {0, 1}, {0, 1, 0}, {0, 0, 1}, {0, 0, 1, 0, 0, 0, 0}} {
		wantNoRead(t, b)
	}
	for _, make := range makers()[:2] {
		b := plainBytes(make())
		for n := range b {
			wantNoRead(t, b[:n])
			wantJust(t, b[n:])
		}
	}
	b := plainBytes(many())
	for n := 0; n < len(b); n += 997 {
		wantNoRead(t, b[:n])
	}
	wantNoRead(t, b[:len(b)-1])
}

// P1001: ErrForm if some are cut out of the middle, but where just what Lay lays is left.
func TestBytesCutOut(t *testing.T) {
	b := someBytes()
	forms := 0
	for from := range b {
		for to := from + 1; to <= len(b); to++ {
			c := slices.Delete(slices.Clone(b), from, to)
			wantJust(t, c)
			if isForm(c) {
				forms++
			}
		}
	}
	if forms > 60 {
		t.Errorf("%d of them were a program's: too many to show anything", forms)
	}
}

// P1001: ErrForm if some are added behind, whatever they are; ahead or between: if it is not what Lay lays.
func TestAddedBytes(t *testing.T) {
	for _, make := range makers()[:2] {
		b := plainBytes(make())
		for v := range 256 {
			wantNoRead(t, append(slices.Clone(b), byte(v)))
			for at := range b {
				wantJust(t, slices.Insert(slices.Clone(b), at, byte(v)))
			}
		}
		wantNoRead(t, append(slices.Clone(b), b...))
		wantNoRead(t, append(slices.Clone(b), 0, 0, 0))
		wantNoRead(t, append(slices.Clone(b), 27, 0, 0, 0, 0, 0, 0))
	}
	wantNoRead(t, []byte{0, 0, 0, 0})
	wantNoRead(t, append(plainBytes(many()), 0))
}

// counts has where a count stands in someBytes.
func counts() []int { return []int{0, 4, 5, 8, 9, 11, 12, 15, 18, 40, 46, 47, 55, 59, 61} }

// P1001: ErrForm if a count is another one than what follows.
func TestWrongCounts(t *testing.T) {
	for _, at := range counts() {
		for v := range 256 {
			b := someBytes()
			if byte(v) == b[at] {
				continue
			}
			b[at] = byte(v)
			wantJust(t, b)
		}
		b := someBytes()
		b[at] = 255
		wantNoRead(t, b)
	}
	for _, at := range []int{0, 1, 2, 3, 6, 7} {
		b := plainBytes(small())
		b[at]++
		wantNoRead(t, b)
		b[at] -= 2
		wantNoRead(t, b)
	}
}

// P1001: any byte changed to any other one: what Lay lays is read as it says, the rest is ErrForm.
func TestChangedBytes(t *testing.T) {
	for at := range someBytes() {
		for v := range 256 {
			b := someBytes()
			b[at] = byte(v)
			wantJust(t, b)
		}
	}
}

// P1001: ErrForm of an instruction whose bytes may not be, wherever it stands.
func TestReadOfWrongInstructions(t *testing.T) {
	for _, i := range [][]byte{{30, 0, 0, 0, 0, 0, 0}, {255, 0, 0, 0, 0, 0, 0}, {0, 1, 0, 0, 0, 0, 0}, {27, 0, 1, 0, 0, 0, 0}, {1, 0, 1, 0, 0, 0, 0}, {28, 0, 0, 0, 0, 0, 1}, {9, 1, 0, 0, 0, 0, 0}} {
		for _, at := range []int{19, 26, 33, 48} {
			b := someBytes()
			copy(b[at:], i)
			wantNoRead(t, b)
		}
		b := someBytes()
		b[61] = 1
		wantNoRead(t, append(b, i...))
	}
}

// P1001: bytes of any kind, against going over them place by place.
func TestAnyBytes(t *testing.T) {
	seed := uint32(1001)
	next := func(n uint32) uint32 {
		seed = seed*1664525 + 1013904223
		return seed >> 8 % n
	}
	forms := 0
	for range 60000 {
		b := make([]byte, 3+next(14))
		for k := range b {
			b[k] = byte(next(2) * next(3))
		}
		wantJust(t, b)
		if isForm(b) {
			forms++
		}
	}
	if forms < 300 {
		t.Errorf("only %d were a program's", forms)
	}
}

func wantSame(t *testing.T, what string, p, q api.Program, want bool) {
	t.Helper()
	if got := Same(p, q); got != want {
		t.Errorf("Same of %s: %v, not %v", what, got, want)
	}
	if got := Same(q, p); got != want {
		t.Errorf("Same of %s, the other way round: %v, not %v", what, got, want)
	}
}

// P1001: Same of programs that are alike, and of different ones.
func TestSame(t *testing.T) {
	for j, one := range makers() {
		for k, two := range makers() {
			p, q := one(), two()
			wantSame(t, "two programs", p, q, j == k)
			if !alike(p, one()) || !alike(q, two()) {
				t.Errorf("Same changed a program")
			}
		}
	}
}

// P1001: Same is false if one number is another one, wherever it stands: numbers that no byte is, too.
func TestSameOfOtherNumbers(t *testing.T) {
	for _, places := range []func(*api.Program) []*int{numberPlaces, codePlaces} {
		q := some()
		for k := range places(&q) {
			for _, by := range []int{1, -1, 256, -256, 1 << 32, math.MinInt} {
				p := some()
				*places(&p)[k] += by
				wantSame(t, "one other number", p, some(), false)
				q := some()
				*places(&q)[k] += by
				wantSame(t, "the same other number", p, q, true)
			}
		}
	}
}

// lengthChanges has what makes one list longer by a zero, or shorter by its last.
func lengthChanges() []func(p *api.Program) {
	var l []func(p *api.Program)
	q := some()
	for k, list := range numberLists(&q) {
		l = append(l, func(p *api.Program) { n := numberLists(p)[k]; *n = append(*n, 0) })
		if len(*list) > 0 {
			l = append(l, func(p *api.Program) { n := numberLists(p)[k]; *n = (*n)[:len(*n)-1] })
		}
	}
	for k, f := range q.Funcs {
		l = append(l, func(p *api.Program) { p.Funcs[k].Code = append(p.Funcs[k].Code, api.Instr{}) })
		if len(f.Code) > 0 {
			l = append(l, func(p *api.Program) { p.Funcs[k].Code = p.Funcs[k].Code[:len(f.Code)-1] })
		}
	}
	return append(l,
		func(p *api.Program) { p.Shapes = append(p.Shapes, api.Shape{}) },
		func(p *api.Program) { p.Shapes = p.Shapes[:2] },
		func(p *api.Program) { p.Shapes = nil },
		func(p *api.Program) { p.Funcs = append(p.Funcs, api.Func{}) },
		func(p *api.Program) { p.Funcs = p.Funcs[:2] },
		func(p *api.Program) { p.Funcs = nil },
		func(p *api.Program) { p.Globals = nil },
	)
}

// P1001: Same is false if one length is another one.
func TestSameOfOtherLengths(t *testing.T) {
	for j, one := range lengthChanges() {
		for k, two := range lengthChanges() {
			p, q := some(), some()
			one(&p)
			wantSame(t, "one other length", p, some(), false)
			two(&q)
			wantSame(t, "two other lengths", p, q, j == k)
		}
	}
}

// P1001: Same is false if what stands in a list stands in another order, or in another list.
func TestSameOfOtherOrder(t *testing.T) {
	for _, change := range []func(p *api.Program){
		func(p *api.Program) { slices.Reverse(p.Globals) },
		func(p *api.Program) { slices.Reverse(p.Shapes) },
		func(p *api.Program) { slices.Reverse(p.Funcs) },
		func(p *api.Program) { slices.Reverse(p.Funcs[0].Code) },
		func(p *api.Program) { slices.Reverse(p.Funcs[0].Objects) },
		func(p *api.Program) { slices.Reverse(p.Funcs[1].Args) },
		func(p *api.Program) { f := &p.Funcs[0]; f.Args, f.Objects = f.Objects, f.Args },
		func(p *api.Program) { f := &p.Funcs[1]; f.Result, f.Slots = f.Slots, f.Result },
		func(p *api.Program) { p.Globals, p.Shapes[0].Fields = p.Shapes[0].Fields, p.Globals },
	} {
		p := some()
		change(&p)
		wantSame(t, "another order", p, some(), false)
	}
}

// P1001: a nil list and an empty one are alike.
func TestSameOfNilAndEmpty(t *testing.T) {
	empty := api.Program{Globals: []int{}, Shapes: []api.Shape{}, Funcs: []api.Func{}}
	wantSame(t, "nothing", api.Program{}, empty, true)
	p := api.Program{Shapes: []api.Shape{{}}, Funcs: []api.Func{{}}}
	q := api.Program{Shapes: []api.Shape{{Fields: []int{}}}, Funcs: []api.Func{{Args: []int{}, Objects: []int{}, Code: []api.Instr{}}}}
	wantSame(t, "empty parts", p, q, true)
	wantSame(t, "nothing and empty parts", p, empty, false)
}

// spoil changes every number of a program, and what stands behind its lists as far as their memory goes.
func spoil(p *api.Program) {
	for _, v := range append(numberPlaces(p), codePlaces(p)...) {
		*v = 99
	}
	for _, l := range numberLists(p) {
		behind := (*l)[len(*l):cap(*l)]
		for k := range behind {
			behind[k] = 98
		}
	}
	for _, f := range p.Funcs {
		behind := f.Code[len(f.Code):cap(f.Code)]
		for k := range behind {
			behind[k] = in(98, 98, 98, 98)
		}
	}
	clear(p.Shapes[:cap(p.Shapes)])
	clear(p.Funcs[:cap(p.Funcs)])
}

// P1001: a Copy is alike, whatever the numbers are, and shares no memory with what it was made of, nor with another one.
func TestCopy(t *testing.T) {
	for _, make := range makers() {
		p := make()
		one, two := Copy(p), Copy(p)
		three := Copy(one)
		for _, q := range []api.Program{p, one, two, three} {
			if !alike(q, make()) {
				t.Fatalf("Copy: %v, not %v", q, make())
			}
		}
		spoil(&one)
		for _, q := range []api.Program{p, two, three} {
			if !alike(q, make()) {
				t.Errorf("Copy: %v shares something with another one", q)
			}
		}
		spoil(&p)
		if !alike(two, make()) || !alike(three, make()) {
			t.Errorf("Copy shares something with what it was made of")
		}
		spoil(&two)
		if !alike(three, make()) {
			t.Errorf("Copy of a Copy shares something")
		}
	}
}

// P1001: Copy looks at no number: what may not be laid is copied all the same.
func TestCopyOfAnyNumbers(t *testing.T) {
	with := func() api.Program {
		p := some()
		for k, v := range append(numberPlaces(&p), codePlaces(&p)...) {
			*v = noBytes()[k%len(noBytes())]
		}
		p.Funcs = append(p.Funcs, api.Func{Code: make([]api.Instr, 300), Objects: make([]int, 1000)})
		return p
	}
	p := with()
	q := Copy(p)
	if !alike(p, with()) || !alike(q, with()) {
		t.Errorf("Copy: %v, not %v", q, with())
	}
	spoil(&p)
	if !alike(q, with()) {
		t.Errorf("Copy shares something with what it was made of")
	}
}

// P1001: a Copy does not share the room behind the lists that it was made of.
func TestCopyOfListsWithRoom(t *testing.T) {
	with := func() api.Program {
		return api.Program{
			Globals: append(make([]int, 0, 9), 1),
			Shapes:  append(make([]api.Shape, 0, 9), api.Shape{Fields: make([]int, 0, 9)}),
			Funcs:   append(make([]api.Func, 0, 9), api.Func{Args: make([]int, 0, 9), Objects: make([]int, 0, 9), Code: make([]api.Instr, 0, 9)}),
		}
	}
	p := with()
	q := Copy(p)
	for _, l := range numberLists(&p) {
		*l = append(*l, 5)
	}
	r := Copy(q)
	for _, l := range numberLists(&q) {
		*l = append(*l, 6)
	}
	q.Funcs[0].Code = append(q.Funcs[0].Code, in(1, 1, 1, 1))
	for _, l := range numberLists(&p) {
		if (*l)[len(*l)-1] != 5 {
			t.Errorf("what was added became %v", *l)
		}
	}
	if !alike(r, with()) || p.Funcs[0].Code[:1][0] != (api.Instr{}) {
		t.Errorf("Copy shares the room behind a list")
	}
}

// Rules: what Read answers shares no memory with what it answers another time, and no two lists of it share any.
func TestReadIsNew(t *testing.T) {
	for _, make := range makers() {
		b := string(plainBytes(make()))
		one, _ := Read(b)
		two, _ := Read(b)
		spoil(&one)
		if !alike(two, make()) {
			t.Errorf("the second answer became %v", two)
		}
		wantRead(t, []byte(b), make())
		three, _ := Read(b)
		for _, l := range numberLists(&three) {
			_ = append(*l, 77, 77, 77)
		}
		if !alike(three, make()) {
			t.Errorf("lists of one answer share memory: %v", three)
		}
	}
}
