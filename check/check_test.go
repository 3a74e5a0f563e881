package check

import (
	"math"
	"slices"
	"testing"

	"besom/api"
	"besom/image"
)

func in(op, a, b, c int) api.Instr { return api.Instr{Op: op, A: a, B: b, C: c} }

var exit = in(api.Exit, 0, 0, 0)

// fn is a function without arguments and a result.
func fn(slots int, code ...api.Instr) api.Func { return api.Func{Slots: slots, Code: code} }

// The functions of mixed.
const (
	host   = 0 // five slots, three stack objects
	adder  = 1 // two arguments, a result
	quiet  = 2 // one argument, no result
	placed = 3 // an argument that is a place
	given  = 4 // a result, no argument
	wide   = 5 // five arguments
)

// mixed is a program of three shapes, four globals, six functions; the first one, of three stack objects and six instructions, has i ahead of its others.
func mixed(i api.Instr) api.Program {
	ret := []api.Instr{in(api.Ret, 0, 0, 0)}
	first := fn(5, i, exit, exit, exit, exit, exit)
	first.Objects = []int{0, 1, 2}
	return api.Program{
		Globals: []int{api.Int, api.Ptr, api.Ptr + 1, api.Int},
		Shapes:  []api.Shape{{Fields: []int{api.Int}}, {Fields: []int{api.Ptr, api.Ptr + 2}}, {Fields: []int{api.Int, api.Int}}},
		Funcs: []api.Func{
			first,
			{Args: []int{api.Int, api.Ptr}, Result: api.Int, Slots: 2, Code: ret},
			{Args: []int{api.Ptr}, Slots: 1, Code: ret},
			{Args: []int{api.Int, api.Loc + 1}, Slots: 2, Code: ret},
			{Result: api.Ptr, Slots: 1, Code: ret},
			{Args: []int{1, 1, 1, 1, 1}, Slots: 5, Code: ret},
		},
	}
}

func wantInstr(t *testing.T, p api.Program, at Place, want api.Errno) {
	t.Helper()
	before := image.Copy(p)
	if got := Instr(p, at); got != want {
		t.Errorf("Instr at %v of %v: %v, not %v", at, p.Funcs, got, want)
	}
	if !image.Same(p, before) {
		t.Errorf("Instr at %v wrote into the program", at)
	}
}

// wantMixed asks for i as the first instruction of mixed.
func wantMixed(t *testing.T, i api.Instr, want api.Errno) {
	t.Helper()
	if got := Instr(mixed(i), Place{}); got != want {
		t.Errorf("Instr %v: %v, not %v", i, got, want)
	}
}

func wantFunc(t *testing.T, p api.Program, fn int, want api.Errno, place Place) {
	t.Helper()
	before := image.Copy(p)
	if got, at := Func(p, fn); got != want || at != place {
		t.Errorf("Func %d of %v: %v at %v, not %v at %v", fn, p.Funcs, got, at, want, place)
	}
	if !image.Same(p, before) {
		t.Errorf("Func %d wrote into the program", fn)
	}
}

func wantProgram(t *testing.T, p api.Program, want api.Errno, place Place) {
	t.Helper()
	before := image.Copy(p)
	if got, at := Program(p); got != want || at != place {
		t.Errorf("Program %v: %v at %v, not %v at %v", p, got, at, want, place)
	}
	if !image.Same(p, before) {
		t.Errorf("Program wrote into %v", before)
	}
}

// rights has an instruction that may be of every op, each operand that is used as another number than 0 where it may be.
var rights = []api.Instr{
	in(api.Nop, 0, 0, 0),
	in(api.SetInt, 4, -7, 0),
	in(api.Move, 1, 4, 0),
	in(api.Add, 1, 2, 4),
	in(api.Sub, 4, 1, 2),
	in(api.Mul, 2, 4, 1),
	in(api.Shl, 1, 1, 1),
	in(api.Shr, 3, 2, 4),
	in(api.Less, 4, 4, 3),
	in(api.Jump, 0, 5, 0),
	in(api.If, 4, 5, 0),
	in(api.SetNil, 4, 2, 0),
	in(api.IsNil, 4, 3, 0),
	in(api.New, 4, 2, 0),
	in(api.Load, 4, 3, 15),
	in(api.Store, 4, 15, 3),
	in(api.GLoad, 4, 3, 0),
	in(api.GStore, 3, 4, 0),
	in(api.Addr, 4, 2, 0),
	in(api.LLoad, 4, 3, 15),
	in(api.LStore, 4, 15, 3),
	in(api.Call, 4, adder, 3),
	in(api.Ret, 0, 0, 0),
	in(api.Spawn, 0, quiet, 4),
	in(api.Defer, 0, quiet, 4),
	in(api.Panic, 4, 3, 0),
	in(api.Recover, 4, 3, 0),
	in(api.Exit, 0, 0, 0),
	in(api.Yield, 0, 0, 0),
	in(api.Output, 4, 0, 0),
}

// P1101: what may be is OK, of every op.
func TestInstrRight(t *testing.T) {
	if len(rights) != 30 {
		t.Fatalf("%d ops", len(rights))
	}
	for op, i := range rights {
		if i.Op != op {
			t.Fatalf("%v stands at %d", i, op)
		}
		wantInstr(t, mixed(i), Place{}, api.OK)
		wantMixed(t, in(op, 0, 0, 0), api.OK)
	}
	for _, i := range []api.Instr{
		in(api.Spawn, 0, host, 0), in(api.Spawn, 0, host, 5), in(api.Defer, 0, host, 5), in(api.Call, 0, host, 5),
		in(api.SetInt, 0, math.MaxInt, 0), in(api.SetInt, 0, math.MinInt, 0),
		in(api.Recover, 2, 2, 0), in(api.Panic, 2, 2, 0),
		in(api.Call, 0, placed, 3), in(api.Call, 4, given, 5), in(api.Call, 0, wide, 0), in(api.Spawn, 0, wide, 0),
	} {
		wantMixed(t, i, api.OK)
	}
}

// P1101: a place that is none.
func TestInstrNoPlace(t *testing.T) {
	p := mixed(exit)
	for _, f := range []int{math.MinInt, -1, 6, 7, math.MaxInt} {
		wantInstr(t, p, Place{Fn: f}, api.ErrArg)
	}
	for _, pc := range []int{math.MinInt, -1, 6, 7, math.MaxInt} {
		wantInstr(t, p, Place{Pc: pc}, api.ErrArg)
	}
	for _, at := range []Place{{host, 5}, {wide, 0}} {
		wantInstr(t, p, at, api.OK)
	}
	wantInstr(t, p, Place{Fn: wide, Pc: 1}, api.ErrArg)
	wantInstr(t, api.Program{}, Place{}, api.ErrArg)
	wantInstr(t, api.Program{Funcs: []api.Func{{}}}, Place{}, api.ErrArg)
	// Each place is looked at with its own function's slots.
	p.Funcs[adder].Code = []api.Instr{exit, in(api.Output, 1, 0, 0), in(api.Output, 2, 0, 0)}
	wantInstr(t, p, Place{adder, 1}, api.OK)
	wantInstr(t, p, Place{adder, 2}, api.ErrPlace)
}

// P1101: ops that are none, and operands that are not used.
func TestInstrForm(t *testing.T) {
	for _, op := range []int{math.MinInt, -1, 30, 31, 255, 256, math.MaxInt} {
		wantMixed(t, in(op, 0, 0, 0), api.ErrForm)
	}
	used := map[int][3]bool{
		api.Nop: {}, api.Exit: {}, api.Yield: {},
		api.SetInt: {true, true}, api.Move: {true, true}, api.SetNil: {true, true}, api.IsNil: {true, true},
		api.New: {true, true}, api.GLoad: {true, true}, api.GStore: {true, true}, api.Addr: {true, true},
		api.If: {true, true}, api.Panic: {true, true}, api.Recover: {true, true},
		api.Jump: {false, true}, api.Output: {true}, api.Ret: {},
		api.Spawn: {false, true, true}, api.Defer: {false, true, true},
	}
	for _, i := range rights {
		u, some := used[i.Op]
		if !some {
			continue // it uses all
		}
		for _, v := range []int{1, -1, 256, math.MaxInt, math.MinInt} {
			for k, x := range []api.Instr{{Op: i.Op, A: v, B: i.B, C: i.C}, {Op: i.Op, A: i.A, B: v, C: i.C}, {Op: i.Op, A: i.A, B: i.B, C: v}} {
				if !u[k] {
					wantMixed(t, x, api.ErrForm)
				}
			}
		}
	}
}

// P1101: what an operand names lies between a first and a last.
func TestInstrPlaces(t *testing.T) {
	slot := func(op, k int) [4]int { return [4]int{op, k, 0, 4} }
	rows := [][4]int{
		{api.Jump, 1, 0, 5}, {api.If, 1, 0, 5},
		{api.SetNil, 1, 0, 2}, {api.New, 1, 0, 2},
		{api.GLoad, 1, 0, 3}, {api.GStore, 0, 0, 3},
		{api.Addr, 1, 0, 2},
		{api.Load, 2, 0, 15}, {api.LLoad, 2, 0, 15}, {api.Store, 1, 0, 15}, {api.LStore, 1, 0, 15},
		{api.Call, 2, 0, 3}, {api.Spawn, 2, 0, 4}, {api.Defer, 2, 0, 4},
		slot(api.SetInt, 0), slot(api.Move, 0), slot(api.Move, 1), slot(api.If, 0), slot(api.SetNil, 0),
		slot(api.IsNil, 0), slot(api.IsNil, 1), slot(api.New, 0), slot(api.Load, 0), slot(api.Load, 1),
		slot(api.Store, 0), slot(api.Store, 2), slot(api.GLoad, 0), slot(api.GStore, 1), slot(api.Addr, 0),
		slot(api.LLoad, 0), slot(api.LLoad, 1), slot(api.LStore, 0), slot(api.LStore, 2), slot(api.Call, 0),
		slot(api.Panic, 0), slot(api.Panic, 1), slot(api.Recover, 0), slot(api.Recover, 1), slot(api.Output, 0),
	}
	for _, op := range []int{api.Add, api.Sub, api.Mul, api.Shl, api.Shr, api.Less} {
		rows = append(rows, slot(op, 0), slot(op, 1), slot(op, 2))
	}
	for _, r := range rows {
		put := func(v int) api.Instr {
			i := rights[r[0]]
			*[]*int{&i.A, &i.B, &i.C}[r[1]] = v
			return i
		}
		wantMixed(t, put(r[2]), api.OK)
		wantMixed(t, put(r[3]), api.OK)
		for _, v := range []int{math.MinInt, r[2] - 1, r[3] + 1, r[3] + 2, math.MaxInt} {
			wantMixed(t, put(v), api.ErrPlace)
		}
	}
}

// P1101: functions that are called, spawned and deferred, and where their arguments are.
func TestInstrCallees(t *testing.T) {
	for _, v := range []int{math.MinInt, -1, 6, 7, math.MaxInt} {
		wantMixed(t, in(api.Call, 0, v, 0), api.ErrPlace)
		wantMixed(t, in(api.Call, 1, v, 0), api.ErrPlace) // nobody knows whether it has a result
		wantMixed(t, in(api.Spawn, 0, v, 0), api.ErrPlace)
		wantMixed(t, in(api.Defer, 0, v, 0), api.ErrPlace)
	}
	for callee, last := range map[int]int{host: 5, adder: 3, quiet: 4, placed: 3, given: 5, wide: 0} {
		wantMixed(t, in(api.Call, 0, callee, 0), api.OK)
		wantMixed(t, in(api.Call, 0, callee, last), api.OK)
		for _, c := range []int{math.MinInt, -1, last + 1, math.MaxInt} {
			wantMixed(t, in(api.Call, 0, callee, c), api.ErrPlace)
			wantMixed(t, in(api.Spawn, 0, callee, c), api.ErrPlace)
			wantMixed(t, in(api.Defer, 0, callee, c), api.ErrPlace)
		}
	}
	// A function that has less slots than the callee has arguments, whatever they are.
	for _, slots := range []int{4, 0, -1, math.MinInt} {
		p := mixed(in(api.Call, 0, wide, 0))
		p.Funcs[host].Slots = slots
		wantInstr(t, p, Place{}, api.ErrPlace)
	}
	for _, slots := range []int{-1, math.MinInt} {
		for _, c := range []int{0, 1, math.MaxInt} {
			p := mixed(in(api.Call, 0, host, c))
			p.Funcs[host].Slots = slots
			wantInstr(t, p, Place{}, api.ErrPlace)
		}
	}
	p := mixed(in(api.Call, 0, host, math.MaxInt))
	p.Funcs[host].Slots = math.MaxInt
	wantInstr(t, p, Place{}, api.OK)
}

// P1101: slots are those of the function, however many it says that it has.
func TestInstrSlots(t *testing.T) {
	for _, slots := range []int{math.MinInt, -1, 0, 1, 16, 17, 300} {
		for _, a := range []int{-1, 0, slots - 1, slots} {
			p := api.Program{Funcs: []api.Func{fn(slots, in(api.SetInt, a, 0, 0))}}
			want := api.ErrPlace
			if a >= 0 && a < slots {
				want = api.OK
			}
			wantInstr(t, p, Place{}, want)
		}
	}
}

// P1101: ErrKind of Spawn and Defer, Panic and Recover.
func TestInstrKinds(t *testing.T) {
	for _, op := range []int{api.Spawn, api.Defer} {
		wantMixed(t, in(op, 0, adder, 0), api.ErrKind)
		wantMixed(t, in(op, 0, given, 0), api.ErrKind)
		wantMixed(t, in(op, 0, placed, 0), api.ErrKind)
		wantMixed(t, in(op, 0, wide, 0), api.OK)
		for _, kind := range []int{api.Loc, api.Loc + 15} {
			for at := range 5 {
				p := mixed(in(op, 0, wide, 0))
				p.Funcs[wide].Args[at] = kind
				wantInstr(t, p, Place{}, api.ErrKind)
			}
		}
		for _, kind := range []int{api.Int, api.Ptr, api.Ptr + 15, api.Loc - 1, api.Loc + 16, api.None, -1} {
			p := mixed(in(op, 0, quiet, 0))
			p.Funcs[quiet].Args[0] = kind
			wantInstr(t, p, Place{}, api.OK)
		}
		for _, kind := range []int{api.Int, api.Ptr, api.Loc, -1, 99} {
			p := mixed(in(op, 0, quiet, 0))
			p.Funcs[quiet].Result = kind
			wantInstr(t, p, Place{}, api.ErrKind)
		}
	}
	wantMixed(t, in(api.Call, 0, placed, 0), api.OK) // a call may hand a place on
	for _, op := range []int{api.Panic, api.Recover} {
		p := mixed(in(op, 1, 2, 0))
		p.Shapes = p.Shapes[:1]
		wantInstr(t, p, Place{}, api.OK)
		p.Shapes = nil
		wantInstr(t, p, Place{}, api.ErrKind)
	}
}

// P1101: A of Ret and Call is 0 where there is no result, whatever slots there are.
func TestInstrNoResult(t *testing.T) {
	for _, a := range []int{math.MinInt, -1, 1, 4, 5, math.MaxInt} {
		wantMixed(t, in(api.Ret, a, 0, 0), api.ErrForm)
		wantMixed(t, in(api.Call, a, quiet, 0), api.ErrForm)
	}
	none := api.Program{Funcs: []api.Func{fn(0, in(api.Ret, 0, 0, 0), in(api.Call, 0, 0, 0), in(api.Call, 1, 0, 0), in(api.Call, 0, 1, 0)), {Result: api.Int}}}
	for pc, want := range []api.Errno{api.OK, api.OK, api.ErrForm, api.ErrPlace} {
		wantInstr(t, none, Place{Pc: pc}, want)
	}
	for _, kind := range []int{api.Int, api.Ptr, api.Loc, -1, 99} {
		for a, want := range map[int]api.Errno{-1: api.ErrPlace, 0: api.OK, 4: api.OK, 5: api.ErrPlace} {
			p := mixed(in(api.Ret, a, 0, 0))
			p.Funcs[host].Result = kind
			wantInstr(t, p, Place{}, want)
			q := mixed(in(api.Call, a, quiet, 0))
			q.Funcs[quiet].Result = kind
			wantInstr(t, q, Place{}, want)
		}
	}
	p := mixed(in(api.Ret, 0, 1, 0))
	p.Funcs[host].Result = api.Int
	wantInstr(t, p, Place{}, api.ErrForm)
}

// P1101: of several errors the one that is named first is told.
func TestInstrFirstError(t *testing.T) {
	for _, i := range []api.Instr{
		in(30, 9, 99, 9), in(api.Move, 9, 9, 1), in(api.Jump, 1, 99, 0), in(api.New, 9, 9, 9), in(api.GStore, 9, 9, 9),
		in(api.Call, 5, quiet, 9), in(api.Spawn, 1, 99, 9), in(api.Spawn, 1, adder, 0), in(api.Defer, 1, placed, 9), in(api.Ret, 9, 0, 0),
	} {
		wantMixed(t, i, api.ErrForm)
	}
	for _, i := range []api.Instr{
		in(api.Spawn, 0, adder, 4), in(api.Spawn, 0, given, 6), in(api.Defer, 0, placed, -1),
		in(api.Call, 5, adder, 9), in(api.Call, 5, 99, 0),
	} {
		wantMixed(t, i, api.ErrPlace)
	}
	for _, op := range []int{api.Panic, api.Recover} {
		for i, want := range map[api.Instr]api.Errno{
			in(op, 0, 0, 1): api.ErrForm, in(op, 5, 0, 1): api.ErrForm,
			in(op, 5, 0, 0): api.ErrPlace, in(op, 0, 5, 0): api.ErrPlace, in(op, 0, 0, 0): api.ErrKind,
		} {
			p := mixed(i)
			p.Shapes = nil
			wantInstr(t, p, Place{}, want)
		}
	}
	wantInstr(t, mixed(in(30, 9, 9, 9)), Place{Fn: 6}, api.ErrArg)
	wantInstr(t, mixed(in(30, 9, 9, 9)), Place{Pc: 6}, api.ErrArg)
}

// beside is a program of two shapes, in which f is the function 1.
func beside(f api.Func) api.Program {
	return api.Program{
		Shapes: []api.Shape{{Fields: []int{api.Int}}, {Fields: []int{api.Ptr + 1}}},
		Funcs:  []api.Func{fn(0, exit), f, fn(-1)},
	}
}

func nops(n int) []api.Instr { return make([]api.Instr, n) }

// P1102: functions that are none, and numbers that are too great or too small.
func TestFuncArg(t *testing.T) {
	p := beside(fn(0, exit))
	for _, k := range []int{math.MinInt, -1, 3, 4, math.MaxInt} {
		wantFunc(t, p, k, api.ErrArg, Place{Fn: k})
	}
	wantFunc(t, api.Program{}, 0, api.ErrArg, Place{})
	wantFunc(t, p, 0, api.OK, Place{})
	wantFunc(t, p, 1, api.OK, Place{})
	wantFunc(t, p, 2, api.ErrArg, Place{Fn: 2})
	for _, args := range []int{0, 1, 3, 16, 17} {
		for _, slots := range []int{math.MinInt, -1, 0, args - 1, args, args + 1, 15, 16, 17, 18, math.MaxInt} {
			f := fn(slots, exit)
			f.Args = slices.Repeat([]int{api.Int}, args)
			if slots >= args && slots <= 16 {
				wantFunc(t, beside(f), 1, api.OK, Place{})
			} else {
				wantFunc(t, beside(f), 1, api.ErrArg, Place{Fn: 1})
			}
		}
	}
	for n := range 12 {
		f := fn(0, exit)
		f.Objects = slices.Repeat([]int{1}, n)
		if n <= 8 {
			wantFunc(t, beside(f), 1, api.OK, Place{})
		} else {
			wantFunc(t, beside(f), 1, api.ErrArg, Place{Fn: 1})
		}
	}
	for _, n := range []int{1, 2, 63, 64} {
		wantFunc(t, beside(fn(0, nops(n)...)), 1, api.OK, Place{})
	}
	for _, n := range []int{0, 65, 66, 1000} {
		wantFunc(t, beside(fn(0, nops(n)...)), 1, api.ErrArg, Place{Fn: 1})
	}
}

// P1102: kinds of arguments and of results.
func TestFuncKind(t *testing.T) {
	for kind := -2; kind < 90; kind++ {
		valid := kind == api.Int || kind == api.Ptr || kind == api.Ptr+1
		place := kind == api.Loc || kind == api.Loc+1
		for at := range 3 {
			f := fn(3, exit)
			f.Args = []int{api.Int, api.Int, api.Int}
			f.Args[at] = kind
			if valid || place {
				wantFunc(t, beside(f), 1, api.OK, Place{})
			} else {
				wantFunc(t, beside(f), 1, api.ErrKind, Place{Fn: 1})
			}
		}
		f := fn(0, exit)
		f.Result = kind
		if valid || kind == api.None {
			wantFunc(t, beside(f), 1, api.OK, Place{})
		} else {
			wantFunc(t, beside(f), 1, api.ErrKind, Place{Fn: 1})
		}
	}
	for _, kind := range []int{math.MinInt, math.MaxInt} {
		wantFunc(t, beside(api.Func{Args: []int{kind}, Slots: 1, Code: nops(1)}), 1, api.ErrKind, Place{Fn: 1})
		wantFunc(t, beside(api.Func{Result: kind, Code: nops(1)}), 1, api.ErrKind, Place{Fn: 1})
	}
	// Where there are more shapes than there may be, there is no kind either.
	p := beside(api.Func{Args: []int{api.Int}, Slots: 1, Code: nops(1)})
	p.Shapes = make([]api.Shape, 17)
	wantFunc(t, p, 1, api.ErrKind, Place{Fn: 1})
	p.Shapes = p.Shapes[:16]
	wantFunc(t, p, 1, api.OK, Place{})
}

// P1102: stack objects of shapes that are none.
func TestFuncObjects(t *testing.T) {
	for _, s := range []int{math.MinInt, -1, 2, 3, math.MaxInt} {
		for at := range 8 {
			f := fn(0, exit)
			f.Objects = []int{0, 1, 0, 1, 0, 1, 0, 1}
			f.Objects[at] = s
			wantFunc(t, beside(f), 1, api.ErrPlace, Place{Fn: 1})
		}
	}
}

// P1102: the first error of its instructions, and where it is.
func TestFuncInstr(t *testing.T) {
	form, place, kind := in(99, 0, 0, 0), in(api.SetInt, 1, 0, 0), in(api.Spawn, 0, 2, 0)
	for _, x := range []struct {
		instr api.Instr
		want  api.Errno
	}{{form, api.ErrForm}, {place, api.ErrPlace}, {kind, api.ErrKind}} {
		for _, at := range []int{0, 1, 30, 63} {
			code := nops(64)
			code[at] = x.instr
			p := beside(fn(1, code...))
			p.Funcs[2].Result = api.Int
			wantFunc(t, p, 1, x.want, Place{Fn: 1, Pc: at})
			for _, later := range []api.Instr{form, place, kind} {
				if at < 63 {
					code[at+1], code[63] = later, later
					wantFunc(t, p, 1, x.want, Place{Fn: 1, Pc: at})
				}
			}
		}
	}
}

// P1102: of several errors of a function the one that is named first is told.
func TestFuncFirstError(t *testing.T) {
	all := api.Func{Args: []int{0}, Slots: 0, Result: api.Loc, Objects: []int{9}, Code: []api.Instr{in(99, 0, 0, 0)}}
	wantFunc(t, beside(all), 1, api.ErrArg, Place{Fn: 1})
	all.Slots = 1
	wantFunc(t, beside(all), 1, api.ErrKind, Place{Fn: 1})
	for _, change := range []func(*api.Func){
		func(f *api.Func) { f.Slots = 17 },
		func(f *api.Func) { f.Objects = slices.Repeat([]int{9}, 9) },
		func(f *api.Func) { f.Code = nil },
		func(f *api.Func) { f.Code = slices.Repeat(f.Code, 65) },
	} {
		f := all
		change(&f)
		wantFunc(t, beside(f), 1, api.ErrArg, Place{Fn: 1})
	}
	all.Args = nil
	wantFunc(t, beside(all), 1, api.ErrKind, Place{Fn: 1})
	all.Args, all.Result = []int{0}, api.None
	wantFunc(t, beside(all), 1, api.ErrKind, Place{Fn: 1})
	all.Args = nil
	wantFunc(t, beside(all), 1, api.ErrPlace, Place{Fn: 1})
	all.Objects = nil
	wantFunc(t, beside(all), 1, api.ErrForm, Place{Fn: 1})
}

// P1102, and the chapter's example: programs that may be.
func TestProgramOK(t *testing.T) {
	wantProgram(t, api.Program{Funcs: []api.Func{fn(0, exit)}}, api.OK, Place{})
	p := api.Program{}
	for range 16 {
		p.Globals = append(p.Globals, api.Ptr+15)
		p.Shapes = append(p.Shapes, api.Shape{Fields: slices.Repeat([]int{api.Ptr + 15}, 16)})
		p.Funcs = append(p.Funcs, api.Func{Slots: 16, Objects: slices.Repeat([]int{15}, 8), Code: nops(64)})
	}
	p.Funcs[15].Args = slices.Repeat([]int{api.Loc + 15}, 16)
	p.Funcs[15].Result = api.Ptr + 15
	wantProgram(t, p, api.OK, Place{})
	for _, i := range rights {
		wantProgram(t, mixed(i), api.OK, Place{})
	}
}

// P1102: what a program has beside its functions' insides.
func TestProgramHead(t *testing.T) {
	ok := []api.Func{fn(0, exit)}
	one := api.Shape{Fields: []int{api.Int}}
	many := func(n int) []api.Func { return slices.Repeat(ok, n) }
	for _, x := range []struct {
		p    api.Program
		want api.Errno
	}{
		{api.Program{}, api.ErrArg},
		{api.Program{Funcs: many(16)}, api.OK},
		{api.Program{Funcs: many(17)}, api.ErrArg},
		{api.Program{Funcs: ok, Globals: slices.Repeat([]int{api.Int}, 16)}, api.OK},
		{api.Program{Funcs: ok, Globals: slices.Repeat([]int{api.Int}, 17)}, api.ErrArg},
		{api.Program{Funcs: ok, Shapes: slices.Repeat([]api.Shape{one}, 16)}, api.OK},
		{api.Program{Funcs: ok, Shapes: slices.Repeat([]api.Shape{one}, 17)}, api.ErrArg},
		{api.Program{Funcs: ok, Shapes: []api.Shape{one, {}}}, api.ErrArg},
		{api.Program{Funcs: ok, Shapes: []api.Shape{one, {Fields: []int{api.Loc}}}}, api.ErrKind},
		{api.Program{Funcs: []api.Func{{Args: []int{api.Int}, Slots: 1, Code: nops(1)}}}, api.ErrKind},
		{api.Program{Funcs: []api.Func{{Result: api.Int, Code: nops(1)}}}, api.ErrKind},
		{api.Program{Funcs: []api.Func{ok[0], {Args: []int{api.Int}, Slots: 1, Result: api.Int, Code: nops(1)}}}, api.OK},
		// Where several fit: the shapes, then the numbers, then the kinds, then the functions.
		{api.Program{Shapes: []api.Shape{{Fields: []int{0}}}, Globals: make([]int, 17)}, api.ErrKind},
		{api.Program{Shapes: []api.Shape{{}}, Globals: []int{0}, Funcs: ok}, api.ErrArg},
		{api.Program{Shapes: []api.Shape{one}, Globals: make([]int, 17), Funcs: ok}, api.ErrArg},
		{api.Program{Globals: []int{0}}, api.ErrArg},
		{api.Program{Globals: []int{0}, Funcs: many(17)}, api.ErrArg},
		{api.Program{Globals: []int{0}, Funcs: []api.Func{{Slots: 17}}}, api.ErrKind},
		{api.Program{Funcs: []api.Func{{Args: []int{1}}}}, api.ErrKind},
		{api.Program{Funcs: []api.Func{{Result: api.Int}}}, api.ErrKind},
	} {
		wantProgram(t, x.p, x.want, Place{})
	}
	for kind := -1; kind < 90; kind++ {
		for at := range 3 {
			p := mixed(exit)
			p.Globals[at] = kind
			if kind == api.Int || kind >= api.Ptr && kind < api.Ptr+3 {
				wantProgram(t, p, api.OK, Place{})
			} else {
				wantProgram(t, p, api.ErrKind, Place{})
			}
		}
	}
}

// P1102: the first function that is wrong, and where.
func TestProgramFunc(t *testing.T) {
	for at := range 6 {
		p := mixed(exit)
		p.Funcs[at].Slots = 17
		wantProgram(t, p, api.ErrArg, Place{Fn: at})
		p = mixed(exit)
		p.Funcs[at].Objects = []int{3}
		wantProgram(t, p, api.ErrPlace, Place{Fn: at})
		p = mixed(exit)
		p.Funcs[at].Code = []api.Instr{exit, in(api.Jump, 0, 2, 0), in(99, 0, 0, 0), in(api.Panic, 9, 9, 9)}
		p.Funcs[at].Code[1].B = 4
		wantProgram(t, p, api.ErrPlace, Place{Fn: at, Pc: 1})
		p.Funcs[at].Code[0].A = 1
		wantProgram(t, p, api.ErrForm, Place{Fn: at})
		p.Funcs[5].Slots = -1
		if at < 5 {
			wantProgram(t, p, api.ErrForm, Place{Fn: at})
		} else {
			wantProgram(t, p, api.ErrArg, Place{Fn: at})
		}
	}
	p := mixed(exit)
	p.Funcs[4].Args = []int{api.Ptr + 3}
	wantProgram(t, p, api.ErrKind, Place{Fn: 4})
}

// P1102: how many arguments a function has.
func TestArgs(t *testing.T) {
	p := mixed(exit)
	for k, want := range []int{0, 2, 1, 2, 0, 5} {
		if got := Args(p, k); got != want {
			t.Errorf("Args of %d: %d, not %d", k, got, want)
		}
	}
	p.Funcs[0].Args = make([]int, 300)
	if got := Args(p, 0); got != 300 {
		t.Errorf("Args: %d, not 300", got)
	}
	for _, k := range []int{math.MinInt, -1, 6, 7, math.MaxInt} {
		if got := Args(p, k); got != 0 {
			t.Errorf("Args of %d: %d, not 0", k, got)
		}
	}
	if got := Args(api.Program{}, 0); got != 0 {
		t.Errorf("Args of no function: %d", got)
	}
}

// plain tells what Instr should, from a row of letters for each op: s a slot, t a target, h a shape, g a global, o a stack object, d a field, f a function, a its arguments, r a result's slot, n any number.
func plain(p api.Program, at Place) api.Errno {
	rows := []string{"---", "sn-", "ss-", "sss", "sss", "sss", "sss", "sss", "sss", "-t-", "st-", "sh-", "ss-", "sh-", "ssd", "sds", "sg-", "gs-", "so-", "ssd", "sds", "rfa", "r--", "-fa", "-fa", "ss-", "ss-", "---", "---", "s--"}
	f := p.Funcs[at.Fn]
	i := f.Code[at.Pc]
	if i.Op < 0 || i.Op >= len(rows) {
		return api.ErrForm
	}
	row := []byte(rows[i.Op])
	callee := f
	if row[1] == 'f' && i.B >= 0 && i.B < len(p.Funcs) {
		callee = p.Funcs[i.B]
	}
	if row[0] == 'r' {
		row[0] = 's'
		if callee.Result == 0 && (i.Op == api.Ret || i.B >= 0 && i.B < len(p.Funcs)) {
			row[0] = '-'
		}
	}
	ends := map[byte]int{'s': f.Slots, 't': len(f.Code), 'h': len(p.Shapes), 'g': len(p.Globals), 'o': len(f.Objects), 'd': 16, 'f': len(p.Funcs), 'a': f.Slots - len(callee.Args) + 1}
	worst := api.OK
	for k, v := range []int{i.A, i.B, i.C} {
		end, some := ends[row[k]]
		switch {
		case row[k] == '-' && v != 0:
			return api.ErrForm
		case some && (v < 0 || v >= end):
			worst = api.ErrPlace
		}
	}
	if worst != api.OK {
		return worst
	}
	if (i.Op == api.Spawn || i.Op == api.Defer) && (callee.Result != 0 || slices.Max(append(callee.Args, 0)) >= api.Loc) {
		return api.ErrKind
	}
	if (i.Op == api.Panic || i.Op == api.Recover) && len(p.Shapes) == 0 {
		return api.ErrKind
	}
	return api.OK
}

// P1101, P1102: many instructions drawn one behind the other, held against plain.
func TestDrawn(t *testing.T) {
	state := uint32(7)
	draw := func(n int) int {
		state = state*1664525 + 1013904223
		return int(state>>8) % n
	}
	seen := make(map[api.Errno]int)
	for range 4000 {
		p := mixed(exit)
		if draw(8) == 0 {
			p.Shapes = nil
			p.Globals = nil
		}
		for k := range p.Funcs {
			p.Funcs[k].Code = nops(1 + draw(6))
		}
		first, where := api.OK, Place{}
		for k, f := range p.Funcs {
			for pc := range f.Code {
				op := draw(31)
				f.Code[pc] = in(op, draw(7)-1, draw(7)-1, draw(7)-1)
				for _, v := range []*int{&f.Code[pc].A, &f.Code[pc].B, &f.Code[pc].C} {
					if draw(2) == 0 {
						*v = 0
					}
				}
			}
			for pc := range f.Code {
				at := Place{k, pc}
				want := plain(p, at)
				seen[want]++
				wantInstr(t, p, at, want)
				if first == api.OK && want != api.OK {
					first, where = want, at
				}
			}
		}
		if len(p.Shapes) > 0 {
			wantProgram(t, p, first, where)
		}
	}
	for _, e := range []api.Errno{api.OK, api.ErrForm, api.ErrPlace, api.ErrKind} {
		if seen[e] < 100 {
			t.Errorf("%v came %d times", e, seen[e])
		}
	}
}
