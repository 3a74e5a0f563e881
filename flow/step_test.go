package flow

import (
	"math"
	"slices"
	"testing"

	"besom/api"
	"besom/check"
	"besom/image"
	"besom/instr"
)

func in(op, a, b, c int) api.Instr { return api.Instr{Op: op, A: a, B: b, C: c} }

var exit = in(api.Exit, 0, 0, 0)

// fn is a function without arguments and a result.
func fn(slots int, code ...api.Instr) api.Func { return api.Func{Slots: slots, Code: code} }

// The functions of mixed.
const (
	host   = 0 // five slots, two stack objects, no result
	adder  = 1 // a number and a pointer to the shape 1; a pointer to the shape 1
	quiet  = 2 // one number, no result
	placed = 3 // a place of the shape 1; a number
	given  = 4 // no argument; a pointer to the shape 0
	still  = 5 // no argument, no result
)

// mixed is a program of two shapes, three globals and six functions; i is the first instruction of the function at.
func mixed(at int, i api.Instr) api.Program {
	p := api.Program{
		Globals: []int{api.Int, api.Ptr, api.Ptr + 1},
		Shapes:  []api.Shape{{Fields: []int{api.Int, api.Ptr + 1}}, {Fields: []int{api.Ptr, api.Int, api.Ptr + 1}}},
		Funcs: []api.Func{
			{Slots: 5, Objects: []int{1, 0}, Code: []api.Instr{exit, exit}},
			{Args: []int{api.Int, api.Ptr + 1}, Result: api.Ptr + 1, Slots: 5, Code: []api.Instr{exit, exit}},
			{Args: []int{api.Int}, Slots: 5, Code: []api.Instr{exit, exit}},
			{Args: []int{api.Loc + 1}, Result: api.Int, Slots: 5, Code: []api.Instr{exit, exit}},
			{Result: api.Ptr, Slots: 5, Code: []api.Instr{exit, exit}},
			{Slots: 5, Code: []api.Instr{exit, exit}},
		},
	}
	p.Funcs[at].Code[0] = i
	return p
}

// someKinds has kinds of every sort, some that no slot of mixed has, and some that are none.
var someKinds = []int{
	api.None, api.Int, api.Ptr, api.Ptr + 1, api.Ptr + 2, api.Ptr + 15, api.Loc, api.Loc + 1, api.Loc + 2, api.Loc + 15,
	2, api.Ptr - 1, api.Ptr + 16, api.Loc - 1, api.Loc + 16, -1, math.MinInt, math.MaxInt,
}

func pointerKinds() []int {
	var l []int
	for k := range api.MaxShapes {
		l = append(l, api.Ptr+k)
	}
	return l
}

// wantStep asks for the kinds behind the first instruction of a function of mixed.
func wantStep(t *testing.T, at int, i api.Instr, kinds, want []int, wantErr api.Errno) {
	t.Helper()
	p := mixed(at, i)
	if e, place := check.Program(p); e != api.OK {
		t.Fatalf("the program of %v may not be: %v at %v", i, e, place)
	}
	before, given := image.Copy(p), slices.Clone(kinds)
	got, e := Step(p, check.Place{Fn: at}, kinds)
	if e != wantErr || !slices.Equal(got, want) {
		t.Errorf("Step %v of %v: %v, %v, not %v, %v", i, kinds, got, e, want, wantErr)
	}
	if !image.Same(p, before) || !slices.Equal(kinds, given) {
		t.Errorf("Step %v of %v wrote into what it was given", i, given)
	}
	if len(got) > 0 {
		got[0]++
		if !slices.Equal(kinds, given) {
			t.Errorf("Step %v answers the list that it was given", i)
		}
	}
}

// set is a slot that an instruction sets, and how; from -1: to kind, else to the kind of the slot from.
type set struct{ slot, kind, from int }

// asked is an instruction, the kinds that slots that it reads may have, and what it sets.
type asked struct {
	fn   int
	i    api.Instr
	asks map[int][]int
	sets []set
}

var anyKind = []int{}

func reads(slotsAndKinds ...any) map[int][]int {
	m := map[int][]int{}
	for k := 0; k < len(slotsAndKinds); k += 2 {
		m[slotsAndKinds[k].(int)] = slotsAndKinds[k+1].([]int)
	}
	return m
}

func kindsOf(l ...int) []int { return l }

func sets(slot, kind int) []set { return []set{{slot, kind, -1}} }

// table has each op; every slot that it does not name is neither read nor set.
func table() []asked {
	num := kindsOf(api.Int)
	l := []asked{
		{host, in(api.Nop, 0, 0, 0), nil, nil},
		{host, in(api.SetInt, 3, -7, 0), nil, sets(3, api.Int)},
		{host, in(api.Move, 1, 4, 0), reads(4, anyKind), []set{{1, 0, 4}}},
		{host, in(api.Move, 2, 2, 0), reads(2, anyKind), []set{{2, 0, 2}}},
		{host, in(api.Jump, 0, 1, 0), nil, nil},
		{host, in(api.If, 4, 0, 0), reads(4, num), nil},
		{host, in(api.SetNil, 2, 0, 0), nil, sets(2, api.Ptr)},
		{host, in(api.SetNil, 2, 1, 0), nil, sets(2, api.Ptr+1)},
		{host, in(api.IsNil, 2, 4, 0), reads(4, pointerKinds()), sets(2, api.Int)},
		{host, in(api.IsNil, 3, 3, 0), reads(3, pointerKinds()), sets(3, api.Int)},
		{host, in(api.New, 0, 0, 0), nil, sets(0, api.Ptr)},
		{host, in(api.New, 0, 1, 0), nil, sets(0, api.Ptr+1)},
		{host, in(api.GLoad, 4, 0, 0), nil, sets(4, api.Int)},
		{host, in(api.GLoad, 4, 2, 0), nil, sets(4, api.Ptr+1)},
		{host, in(api.GStore, 0, 4, 0), reads(4, num), nil},
		{host, in(api.GStore, 1, 4, 0), reads(4, kindsOf(api.Ptr)), nil},
		{host, in(api.GStore, 2, 0, 0), reads(0, kindsOf(api.Ptr+1)), nil},
		{host, in(api.Addr, 3, 0, 0), nil, sets(3, api.Loc+1)},
		{host, in(api.Addr, 3, 1, 0), nil, sets(3, api.Loc)},
		{host, in(api.Call, 4, adder, 1), reads(1, num, 2, kindsOf(api.Ptr+1)), sets(4, api.Ptr+1)},
		{host, in(api.Call, 3, adder, 3), reads(3, num, 4, kindsOf(api.Ptr+1)), sets(3, api.Ptr+1)},
		{host, in(api.Call, 0, quiet, 4), reads(4, num), nil},
		{host, in(api.Call, 0, quiet, 0), reads(0, num), nil},
		{host, in(api.Call, 2, placed, 0), reads(0, kindsOf(api.Loc+1)), sets(2, api.Int)},
		{host, in(api.Call, 1, given, 5), nil, sets(1, api.Ptr)},
		{host, in(api.Call, 0, still, 5), nil, nil},
		{host, in(api.Ret, 0, 0, 0), nil, nil},
		{quiet, in(api.Ret, 0, 0, 0), nil, nil},
		{adder, in(api.Ret, 3, 0, 0), reads(3, kindsOf(api.Ptr+1)), nil},
		{placed, in(api.Ret, 0, 0, 0), reads(0, num), nil},
		{given, in(api.Ret, 4, 0, 0), reads(4, kindsOf(api.Ptr)), nil},
		{host, in(api.Spawn, 0, quiet, 3), reads(3, num), nil},
		{host, in(api.Spawn, 0, still, 5), nil, nil},
		{host, in(api.Defer, 0, quiet, 3), reads(3, num), nil},
		{host, in(api.Defer, 0, still, 2), nil, nil},
		{host, in(api.Panic, 3, 1, 0), reads(3, num, 1, kindsOf(api.Ptr)), nil},
		{host, in(api.Recover, 3, 1, 0), nil, []set{{3, api.Int, -1}, {1, api.Ptr, -1}}},
		{host, in(api.Recover, 2, 2, 0), nil, []set{{2, api.Ptr, -1}}},
		{host, in(api.Exit, 0, 0, 0), nil, nil},
		{host, in(api.Yield, 0, 0, 0), nil, nil},
		{host, in(api.Output, 3, 0, 0), reads(3, num), nil},
	}
	for op := api.Add; op <= api.Less; op++ {
		l = append(l,
			asked{host, in(op, 1, 2, 4), reads(2, num, 4, num), sets(1, api.Int)},
			asked{host, in(op, 3, 3, 0), reads(3, num, 0, num), sets(3, api.Int)},
			asked{host, in(op, 2, 4, 4), reads(4, num), sets(2, api.Int)})
	}
	return l
}

// good has kinds that an instruction of the table may read; all others are 77.
func (a asked) good() []int {
	kinds := []int{77, 77, 77, 77, 77}
	for slot, l := range a.asks {
		if len(l) > 0 {
			kinds[slot] = l[0]
		}
	}
	return kinds
}

// behind has the kinds behind an instruction of the table that read what it may.
func (a asked) behind(kinds []int) []int {
	l := slices.Clone(kinds)
	for _, s := range a.sets {
		if s.from < 0 {
			l[s.slot] = s.kind
		} else {
			l[s.slot] = kinds[s.from]
		}
	}
	return l
}

// P1201: each op, each slot of it with every sort of kind: those that it reads must have the kind that it asks for, others may have any.
func TestStepAsksAndSets(t *testing.T) {
	seen := map[int]bool{}
	for _, a := range table() {
		seen[a.i.Op] = true
		for slot := range 5 {
			for _, kind := range someKinds {
				kinds := a.good()
				kinds[slot] = kind
				l, isRead := a.asks[slot]
				may := !isRead || slices.Contains(l, kind) || len(l) == 0 && kind != api.None
				if may {
					wantStep(t, a.fn, a.i, kinds, a.behind(kinds), api.OK)
				} else {
					wantStep(t, a.fn, a.i, kinds, nil, api.ErrKind)
				}
			}
		}
	}
	for _, op := range []int{api.Load, api.Store, api.LLoad, api.LStore} {
		seen[op] = true
	}
	for op := range 40 {
		if instr.Known(op) && !seen[op] {
			t.Errorf("the op %d is not asked for", op)
		}
	}
}

// fieldOf tells the kind of a field of mixed's shapes; false if there is none.
func fieldOf(base, kind, field int) (int, bool) {
	switch {
	case kind == base && field < 2:
		return []int{api.Int, api.Ptr + 1}[field], true
	case kind == base+1 && field < 3:
		return []int{api.Ptr, api.Int, api.Ptr + 1}[field], true
	}
	return 0, false
}

// P1201: Load and LLoad of each field of what each kind leads to, and of fields that it has not.
func TestStepLoads(t *testing.T) {
	for op, base := range map[int]int{api.Load: api.Ptr, api.LLoad: api.Loc} {
		for _, kind := range someKinds {
			for field := range api.MaxFields {
				kinds := []int{77, 0, kind, -5, 78}
				want, is := fieldOf(base, kind, field)
				if is {
					wantStep(t, host, in(op, 4, 2, field), kinds, []int{77, 0, kind, -5, want}, api.OK)
					wantStep(t, host, in(op, 2, 2, field), kinds, []int{77, 0, want, -5, 78}, api.OK)
				} else {
					wantStep(t, host, in(op, 4, 2, field), kinds, nil, api.ErrKind)
					wantStep(t, host, in(op, 2, 2, field), kinds, nil, api.ErrKind)
				}
			}
		}
	}
}

// P1201: Store and LStore of each kind into each field of what each kind leads to, and into fields that it has not.
func TestStepStores(t *testing.T) {
	for op, base := range map[int]int{api.Store: api.Ptr, api.LStore: api.Loc} {
		for _, kind := range someKinds {
			for field := range api.MaxFields {
				for _, value := range someKinds {
					kinds := []int{77, value, kind, 0, 78}
					want, is := fieldOf(base, kind, field)
					if is && want == value {
						wantStep(t, host, in(op, 2, field, 1), kinds, kinds, api.OK)
					} else {
						wantStep(t, host, in(op, 2, field, 1), kinds, nil, api.ErrKind)
					}
				}
			}
		}
	}
	// An object may be stored into a field of its own.
	wantStep(t, host, in(api.Store, 2, 2, 2), []int{0, 0, api.Ptr + 1, 0, 0}, []int{0, 0, api.Ptr + 1, 0, 0}, api.OK)
	wantStep(t, host, in(api.Store, 2, 0, 2), []int{0, 0, api.Ptr + 1, 0, 0}, nil, api.ErrKind)
}

// P1201: no such place, another number of kinds.
func TestStepWrongInputs(t *testing.T) {
	p := mixed(host, in(api.Add, 0, 1, 2))
	ints := []int{1, 1, 1, 1, 1}
	for _, at := range []check.Place{{Fn: -1}, {Fn: 6}, {Fn: math.MinInt}, {Fn: math.MaxInt}, {Pc: -1}, {Pc: 2}, {Pc: math.MinInt}, {Pc: math.MaxInt}, {Fn: 6, Pc: 9}} {
		if got, e := Step(p, at, ints); e != api.ErrArg || got != nil {
			t.Errorf("Step at %v: %v, %v, not ErrArg", at, got, e)
		}
	}
	for _, kinds := range [][]int{nil, {}, {1, 1, 1, 1}, {1, 1, 1, 1, 1, 1}, {0, 0, 0, 0}, {0, 0, 0, 0, 0, 0}} {
		if got, e := Step(p, check.Place{}, kinds); e != api.ErrArg || got != nil {
			t.Errorf("Step of %v: %v, %v, not ErrArg", kinds, got, e)
		}
	}
	if _, e := Step(api.Program{}, check.Place{}, nil); e != api.ErrArg {
		t.Errorf("Step of no program: %v, not ErrArg", e)
	}
	if got, e := Step(api.Program{Funcs: []api.Func{fn(0, exit)}}, check.Place{}, nil); e != api.OK || len(got) != 0 {
		t.Errorf("Step of no slots: %v, %v", got, e)
	}
}

// P1201: an instruction whose form may not be is told as check tells it.
func TestStepOfWrongForm(t *testing.T) {
	for i, want := range map[api.Instr]api.Errno{
		in(30, 0, 0, 0):                     api.ErrForm,
		in(api.Exit, 1, 0, 0):               api.ErrForm,
		in(api.Move, 0, 5, 0):               api.ErrPlace,
		in(api.Output, -1, 0, 0):            api.ErrPlace,
		in(api.Load, 0, 0, 16):              api.ErrPlace,
		in(api.GLoad, 0, 3, 0):              api.ErrPlace,
		in(api.Addr, 0, 2, 0):               api.ErrPlace,
		in(api.Call, 0, 9, 0):               api.ErrPlace,
		in(api.Call, 0, adder, 4):           api.ErrPlace,
		in(api.Call, 0, quiet, math.MaxInt): api.ErrPlace,
		in(api.Spawn, 0, placed, 0):         api.ErrKind,
	} {
		if got, e := Step(mixed(host, i), check.Place{}, []int{1, 1, 1, 1, 1}); e != want || got != nil {
			t.Errorf("Step %v: %v, %v, not %v", i, got, e, want)
		}
		if _, e := Step(mixed(host, i), check.Place{}, nil); e != api.ErrArg {
			t.Errorf("Step %v of no kinds: %v, not ErrArg", i, e)
		}
	}
}

func wantJoin(t *testing.T, a, b, want []int) {
	t.Helper()
	before, other := slices.Clone(a), slices.Clone(b)
	got := Join(a, b)
	if !slices.Equal(got, want) {
		t.Errorf("Join(%v, %v): %v, not %v", a, b, got, want)
	}
	for k := range got {
		got[k] = 99
	}
	if !slices.Equal(a, before) || !slices.Equal(b, other) {
		t.Errorf("Join(%v, %v) shares memory with what it was given", before, other)
	}
}

// P1202: the kinds that both have, as many as the shorter one has.
func TestJoin(t *testing.T) {
	long := []int{api.Int, api.Ptr, api.None, api.Loc, api.Int, -7}
	wantJoin(t, long, long, long)
	wantJoin(t, long, []int{api.Int, api.Ptr + 1, api.Int}, []int{api.Int, api.None, api.None})
	wantJoin(t, []int{api.Int, api.Ptr + 1, api.Int}, long, []int{api.Int, api.None, api.None})
	wantJoin(t, long, []int{api.None, api.Ptr, api.None, api.Loc + 1, api.Int, 7, 8}, []int{0, api.Ptr, 0, 0, api.Int, 0})
	wantJoin(t, nil, long, nil)
	wantJoin(t, long, []int{}, nil)
	wantJoin(t, nil, nil, nil)
	for _, a := range someKinds {
		for _, b := range someKinds {
			want := api.None
			if a == b {
				want = a
			}
			wantJoin(t, []int{a, api.Int}, []int{b}, []int{want})
		}
	}
}

func wantNext(t *testing.T, p api.Program, at check.Place, want ...int) {
	t.Helper()
	before := image.Copy(p)
	if got := Next(p, at); !slices.Equal(got, want) {
		t.Errorf("Next at %v of %v: %v, not %v", at, p.Funcs, got, want)
	}
	if !image.Same(p, before) {
		t.Errorf("Next at %v wrote into the program", at)
	}
}

// P1202: where each op may go on, at each place of three.
func TestNext(t *testing.T) {
	for op := range 31 {
		for pc := range 3 {
			code := []api.Instr{exit, exit, exit}
			p := api.Program{Funcs: []api.Func{fn(1, exit), fn(1, code...)}}
			for b := range 3 {
				code[pc] = in(op, 0, b, 0)
				at := check.Place{Fn: 1, Pc: pc}
				switch {
				case op == api.Jump:
					wantNext(t, p, at, b)
				case op == api.If && b != pc+1:
					wantNext(t, p, at, pc+1, b)
				case op == api.Ret, op == api.Panic, op == api.Exit:
					wantNext(t, p, at)
				default:
					wantNext(t, p, at, pc+1)
				}
			}
		}
	}
}

// P1202: no such place, and targets that are none.
func TestNextWrongInputs(t *testing.T) {
	p := api.Program{Funcs: []api.Func{fn(1, in(api.Jump, 0, math.MaxInt, 0), in(api.If, 0, -1, 0))}}
	for _, at := range []check.Place{{Fn: -1}, {Fn: 1}, {Fn: math.MinInt}, {Fn: math.MaxInt}, {Pc: -1}, {Pc: 2}, {Pc: math.MinInt}, {Pc: math.MaxInt}} {
		wantNext(t, p, at)
	}
	wantNext(t, p, check.Place{}, math.MaxInt)
	wantNext(t, p, check.Place{Pc: 1}, 2, -1)
	wantNext(t, api.Program{}, check.Place{})
}

// draw tells numbers that look drawn, the same ones each time.
type draw struct{ state uint32 }

func (d *draw) below(n int) int {
	d.state = d.state*1664525 + 1013904223
	return int(d.state>>8) % n
}

func (d *draw) of(l ...int) int { return l[d.below(len(l))] }

// P1201, P1202, P1203: programs and kinds of any form are told something, and nothing panics.
func TestAnyForm(t *testing.T) {
	d := &draw{state: 7}
	odd := []int{0, 0, 1, 1, 2, 3, 4, 5, 15, 16, 17, 64, 65, -1, 31, math.MaxInt, math.MinInt}
	list := func(n int) []int {
		l := make([]int, d.below(n+1))
		for k := range l {
			l[k] = d.of(odd...)
		}
		return l
	}
	fine := 0
	for range 30000 {
		p := api.Program{Globals: list(3)}
		for range d.below(3) {
			p.Shapes = append(p.Shapes, api.Shape{Fields: list(3)})
		}
		for range 1 + d.below(3) {
			f := api.Func{Args: list(2), Result: d.of(odd...), Slots: d.of(0, 1, 2, 3, 3, 3, 3, -1), Objects: list(2)}
			for range 1 + d.below(3) {
				f.Code = append(f.Code, in(d.below(31), d.of(odd...), d.of(odd...), d.of(odd...)))
			}
			p.Funcs = append(p.Funcs, f)
		}
		at := check.Place{Fn: d.below(4) - 1, Pc: d.below(4) - 1}
		kinds := list(3)
		got, e := Step(p, at, kinds)
		if e == api.OK {
			fine++
		}
		if e == api.OK && len(got) != len(kinds) || e != api.OK && got != nil {
			t.Fatalf("Step of %v at %v with %v: %v, %v", p, at, kinds, got, e)
		}
		Next(p, at)
		want, place := check.Program(p)
		if m, e, told := Program(p); want != api.OK && (m != nil || e != want || told != place) {
			t.Fatalf("Program of %v: %v, %v at %v, not %v at %v", p, m, e, told, want, place)
		}
	}
	if fine == 0 {
		t.Error("no drawn instruction was OK")
	}
}
