package flow

import (
	"math"
	"slices"
	"testing"

	"besom/api"
	"besom/check"
	"besom/image"
)

// pair is a program of two shapes, two globals, a function of one Exit, and others.
func pair(fs ...api.Func) api.Program {
	return api.Program{
		Globals: []int{api.Int, api.Ptr},
		Shapes:  []api.Shape{{Fields: []int{api.Int, api.Ptr}}, {Fields: []int{api.Ptr + 1, api.Int}}},
		Funcs:   append([]api.Func{fn(0, exit)}, fs...),
	}
}

func wantProgram(t *testing.T, p api.Program, want api.Errno, place check.Place) *Maps {
	t.Helper()
	before := image.Copy(p)
	m, e, at := Program(p)
	if e != want || at != place || (m != nil) != (want == api.OK) {
		t.Errorf("Program %v: %v, %v at %v, not %v at %v", p.Funcs, m, e, at, want, place)
	}
	if !image.Same(p, before) {
		t.Errorf("Program wrote into %v", before)
	}
	return m
}

// wantKinds asks for the kinds at each place of a function; nil: it is not reached.
func wantKinds(t *testing.T, m *Maps, fn int, want ...[]int) {
	t.Helper()
	for pc, kinds := range want {
		if got := m.Kinds(fn, pc); !slices.Equal(got, kinds) {
			t.Errorf("Kinds(%d, %d): %v, not %v", fn, pc, got, kinds)
		}
		if got := m.Reached(fn, pc); got != (kinds != nil) {
			t.Errorf("Reached(%d, %d): %v", fn, pc, got)
		}
		wantBits(t, m, fn, pc, kinds)
	}
	for _, pc := range []int{-1, len(want), math.MinInt, math.MaxInt} {
		if m.Reached(fn, pc) || m.Kinds(fn, pc) != nil || m.Pointers(fn, pc) != 0 || m.Places(fn, pc) != 0 {
			t.Errorf("the place %d of %d is no place", pc, fn)
		}
	}
}

func wantBits(t *testing.T, m *Maps, fn, pc int, kinds []int) {
	t.Helper()
	var pointers, places uint16
	for k, kind := range kinds {
		if kind >= 16 && kind < 32 {
			pointers += 1 << k
		}
		if kind >= 64 && kind < 80 {
			places += 1 << k
		}
	}
	if got := m.Pointers(fn, pc); got != pointers {
		t.Errorf("Pointers(%d, %d): %b, not %b", fn, pc, got, pointers)
	}
	if got := m.Places(fn, pc); got != places {
		t.Errorf("Places(%d, %d): %b, not %b", fn, pc, got, places)
	}
}

func row(kinds ...int) []int { return append([]int{}, kinds...) }

// P1203: what two ways have in common, and places that are not reached.
func TestProgramJoins(t *testing.T) {
	m := wantProgram(t, pair(fn(2, in(api.SetInt, 0, 1, 0), in(api.If, 0, 4, 0), in(api.SetNil, 0, 0, 0), in(api.SetInt, 1, 5, 0), exit, in(api.Output, 0, 0, 0))), api.OK, check.Place{})
	wantKinds(t, m, 1, row(0, 0), row(api.Int, 0), row(api.Int, 0), row(api.Ptr, 0), row(0, 0), nil)
	wantKinds(t, m, 0, row())
	wantKinds(t, m, 2)
	wantKinds(t, m, -1)
	both := wantProgram(t, pair(fn(2, in(api.SetInt, 0, 1, 0), in(api.If, 0, 4, 0), in(api.SetInt, 1, 2, 0), in(api.Jump, 0, 5, 0), in(api.SetInt, 1, 3, 0), in(api.Output, 1, 0, 0), exit)), api.OK, check.Place{})
	wantKinds(t, both, 1, row(0, 0), row(1, 0), row(1, 0), row(1, 1), row(1, 0), row(1, 1), row(1, 1))
	// An If whose target is the next place, and one whose target is itself.
	same := wantProgram(t, pair(fn(1, in(api.SetInt, 0, 1, 0), in(api.If, 0, 2, 0), in(api.If, 0, 2, 0), exit)), api.OK, check.Place{})
	wantKinds(t, same, 1, row(0), row(1), row(1), row(1))
}

// P1203: a function begins with its arguments, then None; a way back to the place 0 joins them.
func TestProgramArguments(t *testing.T) {
	f := api.Func{Args: []int{api.Ptr + 1, api.Int, api.Loc}, Slots: 5, Code: []api.Instr{in(api.If, 1, 0, 0), exit}}
	m := wantProgram(t, pair(f), api.OK, check.Place{})
	wantKinds(t, m, 1, row(api.Ptr+1, api.Int, api.Loc, 0, 0), row(api.Ptr+1, api.Int, api.Loc, 0, 0))
	f.Code = []api.Instr{in(api.SetInt, 3, 0, 0), in(api.SetNil, 0, 0, 0), in(api.If, 1, 0, 0), exit}
	back := wantProgram(t, pair(f), api.OK, check.Place{})
	wantKinds(t, back, 1, row(0, api.Int, api.Loc, 0, 0), row(0, api.Int, api.Loc, api.Int, 0), row(api.Ptr, api.Int, api.Loc, api.Int, 0), row(api.Ptr, api.Int, api.Loc, api.Int, 0))
	walk := api.Func{Args: []int{api.Ptr}, Slots: 2, Code: []api.Instr{in(api.Load, 1, 0, 0), in(api.Load, 0, 0, 1), in(api.Jump, 0, 0, 0)}}
	list := wantProgram(t, pair(walk), api.OK, check.Place{})
	wantKinds(t, list, 1, row(api.Ptr, 0), row(api.Ptr, api.Int), row(api.Ptr, api.Int))
}

// P1203: a loop that keeps a kind keeps it, though it is none till the loop is gone round.
func TestProgramLoopKeeps(t *testing.T) {
	m := wantProgram(t, pair(fn(2, in(api.SetInt, 0, 9, 0), in(api.SetNil, 1, 1, 0), in(api.Nop, 0, 0, 0), in(api.Load, 1, 1, 0), in(api.If, 0, 2, 0), in(api.Ret, 0, 0, 0))), api.OK, check.Place{})
	wantKinds(t, m, 1, row(0, 0), row(1, 0), row(1, api.Ptr+1), row(1, api.Ptr+1), row(1, api.Ptr+1), row(1, api.Ptr+1))
}

// rounds is a loop in which a slot loses its kind only when the one ahead of it did: as many rounds as there are slots.
func rounds(slots int, last api.Instr) api.Func {
	f := fn(slots)
	for k := range slots {
		f.Code = append(f.Code, in(api.SetInt, k, k, 0))
	}
	top := len(f.Code)
	f.Code = append(f.Code, last)
	for k := slots - 1; k > 1; k-- {
		f.Code = append(f.Code, in(api.Move, k, k-1, 0))
	}
	return api.Func{Slots: slots, Code: append(f.Code, in(api.SetNil, 1, 0, 0), in(api.If, 0, top, 0), exit)}
}

// P1203: kinds that are lost behind several rounds of a loop alone.
func TestProgramRounds(t *testing.T) {
	const slots, top = 12, 12
	m, e, at := Program(pair(rounds(slots, in(api.Nop, 0, 0, 0))))
	// The first Move of a slot that has no kind any more is the last of the code's way down.
	if m != nil || e != api.ErrKind || at != (check.Place{Fn: 1, Pc: top + 1}) {
		t.Errorf("Moves of None: %v, %v at %v", m, e, at)
	}
	for k := range slots {
		p := pair(rounds(slots, in(api.Output, k, 0, 0)))
		want := check.Place{Fn: 1, Pc: top}
		if k == 0 {
			want.Pc = top + 1
		}
		wantProgram(t, p, api.ErrKind, want)
	}
}

// swap is a loop through which a pointer wanders from slot to slot, so that no slot keeps its kind.
func swap(slots int) api.Func {
	f := fn(slots, in(api.SetInt, 0, 1, 0))
	for k := 1; k < slots; k++ {
		f.Code = append(f.Code, in(api.SetInt, k, k, 0))
	}
	top := len(f.Code)
	f.Code = append(f.Code, in(api.SetNil, slots-1, 1, 0), in(api.If, 0, top+3, 0), in(api.SetInt, slots-1, 1, 0), in(api.Nop, 0, 0, 0), in(api.If, 0, top, 0), exit)
	return f
}

// P1203: kinds that are lost, but that nobody asks for, are no error.
func TestProgramLostUnasked(t *testing.T) {
	m := wantProgram(t, pair(swap(3)), api.OK, check.Place{})
	wantKinds(t, m, 1, row(0, 0, 0), row(1, 0, 0), row(1, 1, 0), row(1, 1, 0), row(1, 1, api.Ptr+1), row(1, 1, api.Ptr+1), row(1, 1, 0), row(1, 1, 0), row(1, 1, 0))
}

// P1203: a loop each way of which brings more than the place has that it leads to comes to an end.
func TestProgramEnds(t *testing.T) {
	m := wantProgram(t, pair(fn(3, in(api.SetInt, 0, 1, 0), in(api.If, 0, 4, 0), in(api.SetInt, 1, 1, 0), in(api.Jump, 0, 5, 0), in(api.Recover, 1, 2, 0), in(api.If, 0, 4, 0), exit)), api.OK, check.Place{})
	wantKinds(t, m, 1, row(0, 0, 0), row(1, 0, 0), row(1, 0, 0), row(1, 1, 0), row(1, 0, 0), row(1, 1, 0), row(1, 1, 0))
}

// errorsOf has functions, what is wrong with each, and where.
func errorsOf() []struct {
	f    api.Func
	want api.Errno
	pc   int
} {
	out := func(k int) api.Instr { return in(api.Output, k, 0, 0) }
	nop := in(api.Nop, 0, 0, 0)
	return []struct {
		f    api.Func
		want api.Errno
		pc   int
	}{
		{fn(1, nop), api.ErrFlow, 0},
		{fn(1, out(0), nop), api.ErrFlow, 1},                                                        // ahead of ErrKind
		{fn(1, out(0)), api.ErrFlow, 0},                                                             // both at one place
		{fn(1, in(api.SetInt, 0, 1, 0), in(api.If, 0, 0, 0)), api.ErrFlow, 1},                       // an If goes on behind itself, too
		{fn(1, exit, nop), api.OK, 0},                                                               // nobody comes there
		{fn(1, in(api.Jump, 0, 0, 0), nop), api.OK, 0},                                              // nor there
		{fn(1, in(api.Ret, 0, 0, 0), out(0)), api.OK, 0},                                            // nor there
		{fn(1, in(api.Jump, 0, 2, 0), out(0), exit), api.OK, 0},                                     // jumped over
		{fn(1, in(api.Jump, 0, 2, 0), exit, in(api.Jump, 0, 1, 0)), api.OK, 0},                      // back from the last place
		{fn(2, exit, out(1)), api.OK, 0},                                                            // not reached
		{fn(2, out(1), exit), api.ErrKind, 0},                                                       // nothing was set
		{fn(2, in(api.Jump, 0, 2, 0), exit, out(1), out(0), in(api.Jump, 0, 1, 0)), api.ErrKind, 2}, // the least of two
		{fn(2, in(api.Jump, 0, 3, 0), out(0), exit, out(1), in(api.Jump, 0, 1, 0)), api.ErrKind, 1}, // the least, though it comes later
		{fn(2, in(api.Move, 0, 1, 0), out(0), exit), api.ErrKind, 0},                                // a Move of None
		{fn(2, in(api.SetInt, 0, 1, 0), in(api.Move, 0, 1, 0), exit), api.ErrKind, 1},               // likewise
		{fn(1, in(api.SetNil, 0, 0, 0), out(0), exit), api.ErrKind, 1},                              // a pointer is no number
		{fn(2, in(api.SetInt, 0, 1, 0), in(api.SetNil, 1, 0, 0), in(api.Panic, 0, 1, 0)), api.OK, 0},
		{fn(2, in(api.SetInt, 0, 1, 0), in(api.SetNil, 1, 1, 0), in(api.Panic, 0, 1, 0)), api.ErrKind, 2},
		{api.Func{Result: api.Int, Slots: 1, Code: []api.Instr{in(api.Ret, 0, 0, 0)}}, api.ErrKind, 0},
		{api.Func{Result: api.Int, Slots: 1, Code: []api.Instr{in(api.SetInt, 0, 1, 0), in(api.Ret, 0, 0, 0)}}, api.OK, 0},
		{api.Func{Args: []int{api.Ptr}, Slots: 2, Code: []api.Instr{in(api.Load, 1, 0, 0), in(api.SetInt, 0, 1, 0), in(api.Jump, 0, 0, 0)}}, api.ErrKind, 0},
	}
}

// P1203: what is wrong with a function, and where.
func TestProgramErrors(t *testing.T) {
	for _, x := range errorsOf() {
		want := check.Place{}
		if x.want != api.OK {
			want = check.Place{Fn: 1, Pc: x.pc}
		}
		wantProgram(t, pair(x.f), x.want, want)
		wantProgram(t, pair(x.f, fn(0, in(api.Nop, 0, 0, 0))), orFlow(x.want), orSecond(x.want, want))
	}
}

// orFlow and orSecond: what is told, where the function 2 runs out.
func orFlow(e api.Errno) api.Errno {
	if e == api.OK {
		return api.ErrFlow
	}
	return e
}

func orSecond(e api.Errno, at check.Place) check.Place {
	if e == api.OK {
		return check.Place{Fn: 2}
	}
	return at
}

// P1203: the first function that has an error counts, whichever error it is; in one function ErrFlow does.
func TestProgramFirstFunction(t *testing.T) {
	wrong := fn(1, in(api.Nop, 0, 0, 0), in(api.Output, 0, 0, 0), exit)
	runsOut := fn(1, in(api.Nop, 0, 0, 0), in(api.Nop, 0, 0, 0))
	wantProgram(t, pair(wrong, runsOut), api.ErrKind, check.Place{Fn: 1, Pc: 1})
	wantProgram(t, pair(runsOut, wrong), api.ErrFlow, check.Place{Fn: 1, Pc: 1})
	p := pair(wrong, runsOut)
	p.Funcs[0] = fn(1, in(api.Output, 0, 0, 0), in(api.Jump, 0, 0, 0))
	wantProgram(t, p, api.ErrKind, check.Place{})
	p.Funcs[0] = fn(1, in(api.Output, 0, 0, 0), in(api.Nop, 0, 0, 0))
	wantProgram(t, p, api.ErrFlow, check.Place{Pc: 1})
	// A function that nobody calls counts as well.
	wantProgram(t, pair(fn(0, exit), fn(0, exit), wrong), api.ErrKind, check.Place{Fn: 3, Pc: 1})
}

// P1203: check.Program's error and place come ahead of all.
func TestProgramOfWrongForm(t *testing.T) {
	wantProgram(t, api.Program{}, api.ErrArg, check.Place{})
	runsOut := fn(1, in(api.Output, 0, 0, 0))
	wantProgram(t, pair(runsOut, fn(1, exit, in(30, 0, 0, 0))), api.ErrForm, check.Place{Fn: 2, Pc: 1})
	wantProgram(t, pair(runsOut, fn(17, exit)), api.ErrArg, check.Place{Fn: 2})
	wantProgram(t, pair(runsOut, fn(1, exit, in(api.Jump, 0, 2, 0))), api.ErrPlace, check.Place{Fn: 2, Pc: 1})
	p := pair(runsOut)
	p.Globals = []int{api.None}
	wantProgram(t, p, api.ErrKind, check.Place{})
}

// P1203: what an instruction sets that may not read what it reads is None behind it; a Call of no result sets nothing.
func TestKindsBehindErrors(t *testing.T) {
	taker := api.Func{Args: []int{api.Int}, Result: api.Ptr, Slots: 1, Code: []api.Instr{exit}}
	quiet := api.Func{Args: []int{api.Int}, Slots: 1, Code: []api.Instr{exit}}
	set := in(api.SetInt, 0, 1, 0)
	for _, i := range []api.Instr{
		in(api.Add, 0, 1, 1), in(api.Less, 0, 0, 1), in(api.Move, 0, 1, 0), in(api.IsNil, 0, 1, 0),
		in(api.Load, 0, 1, 0), in(api.LLoad, 0, 1, 0), in(api.Call, 0, 2, 1),
	} {
		// The jump back brings None to the place 1, where the output of the slot 0 is: it was a number there at first.
		wantProgram(t, pair(fn(2, set, in(api.Output, 0, 0, 0), i, in(api.Jump, 0, 1, 0)), taker, quiet), api.ErrKind, check.Place{Fn: 1, Pc: 1})
	}
	for _, i := range []api.Instr{
		in(api.Store, 1, 0, 0), in(api.LStore, 1, 0, 0), in(api.GStore, 0, 1, 0), in(api.Output, 1, 0, 0),
		in(api.Call, 0, 3, 1), in(api.Spawn, 0, 3, 1), in(api.Defer, 0, 3, 1),
	} {
		wantProgram(t, pair(fn(2, set, in(api.Output, 0, 0, 0), i, in(api.Jump, 0, 1, 0)), taker, quiet), api.ErrKind, check.Place{Fn: 1, Pc: 2})
	}
	// An If that may not read its slot goes on all the same, and a Panic, a Ret nowhere.
	wantProgram(t, pair(fn(2, in(api.Jump, 0, 2, 0), in(api.Output, 1, 0, 0), in(api.If, 0, 1, 0), exit)), api.ErrKind, check.Place{Fn: 1, Pc: 1})
	wantProgram(t, pair(fn(2, in(api.Panic, 0, 1, 0), in(api.Nop, 0, 0, 0))), api.ErrKind, check.Place{Fn: 1})
}

// P1203: bits for all slots, the last one too.
func TestPointersAndPlaces(t *testing.T) {
	args := make([]int, 16)
	for k := range args {
		args[k] = []int{api.Ptr, api.Int, api.Loc + 1, api.Ptr + 1, api.Loc}[(k*7)%5]
	}
	args[15] = api.Loc + 1
	m := wantProgram(t, pair(api.Func{Args: args, Slots: 16, Code: []api.Instr{in(api.SetNil, 15, 0, 0), in(api.SetNil, 0, 1, 0), exit}}), api.OK, check.Place{})
	second, third := slices.Clone(args), slices.Clone(args)
	second[15], third[15], third[0] = api.Ptr, api.Ptr, api.Ptr+1
	wantKinds(t, m, 1, args, second, third)
	if m.Places(1, 0)>>15 != 1 || m.Pointers(1, 1)>>15 != 1 || m.Pointers(1, 0)&1 != 1 {
		t.Errorf("the first and the last bit: %b %b %b", m.Places(1, 0), m.Pointers(1, 1), m.Pointers(1, 0))
	}
}

// P1203: a nil Maps, and a zero one, which is as a nil one.
func TestNilMaps(t *testing.T) {
	for _, m := range []*Maps{nil, {}} {
		wantKinds(t, m, 0)
		wantKinds(t, m, 1, nil)
	}
}

// P1203: what is answered is new each time, and does not hang on what becomes of the program.
func TestMapsKeepTheirOwn(t *testing.T) {
	p := pair(api.Func{Args: []int{api.Ptr, api.Int}, Slots: 2, Code: []api.Instr{in(api.Nop, 0, 0, 0), in(api.If, 1, 0, 0), exit}})
	m := wantProgram(t, p, api.OK, check.Place{})
	p.Funcs[1].Args[0], p.Funcs[1].Code[0] = api.Int, exit
	for pc := range 3 {
		k := m.Kinds(1, pc)
		k[0], k[1] = 99, 98
	}
	wantKinds(t, m, 1, row(api.Ptr, api.Int), row(api.Ptr, api.Int), row(api.Ptr, api.Int))
}
