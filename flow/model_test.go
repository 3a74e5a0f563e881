package flow

import (
	"slices"
	"testing"

	"besom/api"
	"besom/check"
)

// drawn is a function of the form that may be in pair's programs, of so many slots and places; its last place is an Exit as often as not.
func drawn(d *draw, slots, places int, ops ...int) api.Func {
	f := api.Func{Slots: slots, Objects: []int{1}}
	for range d.below(slots + 1) {
		f.Args = append(f.Args, d.of(api.Int, api.Int, api.Ptr, api.Ptr+1, api.Loc+1))
	}
	for pc := 0; pc < places; {
		i := in(d.of(ops...), d.below(slots), d.below(slots), d.below(slots))
		switch i.Op {
		case api.SetInt, api.SetNil, api.Addr, api.GLoad, api.Move, api.IsNil, api.Panic, api.Recover:
			i.C = 0
		case api.If, api.Jump:
			i.B, i.C = d.below(places), 0
		case api.Output:
			i.B, i.C = 0, 0
		}
		if i.Op == api.Jump {
			i.A = 0
		}
		if pc == places-1 && d.below(2) == 0 {
			i = exit
		}
		f.Code = append(f.Code, i)
		p := pair(f)
		p.Funcs[1].Code = append(slices.Clone(f.Code), make([]api.Instr, places-pc-1)...)
		if e, _ := check.Program(p); e == api.OK {
			pc++
		} else {
			f.Code = f.Code[:pc]
		}
	}
	return f
}

var allOps = []int{
	api.SetInt, api.Move, api.Add, api.Jump, api.If, api.If, api.SetNil, api.IsNil, api.Load, api.Store,
	api.GLoad, api.Addr, api.LLoad, api.LStore, api.Panic, api.Recover, api.Output, api.Nop,
}

// behindOf tells the kinds behind a place, as Step and the chapter's words for where it has an error say; and whether it had one.
func behindOf(p api.Program, at check.Place, kinds []int) ([]int, bool) {
	if l, e := Step(p, at, kinds); e == api.OK {
		return l, false
	}
	l := slices.Clone(kinds)
	switch i := p.Funcs[at.Fn].Code[at.Pc]; i.Op {
	case api.Move, api.Add, api.IsNil, api.Load, api.LLoad:
		l[i.A] = api.None
	}
	return l, true
}

// entered has the kinds with which a function begins.
func entered(f api.Func) []int {
	return append(slices.Clone(f.Args), make([]int, f.Slots-len(f.Args))...)
}

// meeting tells what comes to each place of the function 1, all at once, if the places have these kinds (nil: not reached).
func meeting(p api.Program, have [][]int) [][]int {
	f := p.Funcs[1]
	next := make([][]int, len(f.Code))
	next[0] = entered(f)
	for pc := range f.Code {
		if have[pc] == nil {
			continue
		}
		at := check.Place{Fn: 1, Pc: pc}
		l, _ := behindOf(p, at, have[pc])
		for _, to := range Next(p, at) {
			if to == len(f.Code) {
				continue
			}
			if next[to] == nil {
				next[to] = slices.Clone(l)
				continue
			}
			for k := range l {
				if next[to][k] != l[k] {
					next[to][k] = api.None
				}
			}
		}
	}
	return next
}

func sameRows(a, b [][]int) bool {
	return slices.EqualFunc(a, b, func(x, y []int) bool { return (x == nil) == (y == nil) && slices.Equal(x, y) })
}

// settled goes on with meeting till nothing changes.
func settled(p api.Program) [][]int {
	have := make([][]int, len(p.Funcs[1].Code))
	for {
		next := meeting(p, have)
		if sameRows(next, have) {
			return have
		}
		have = next
	}
}

// told tells what is wrong with the function 1 of these kinds.
func told(p api.Program, have [][]int) (api.Errno, check.Place) {
	last := len(have) - 1
	if have[last] != nil && slices.Contains(Next(p, check.Place{Fn: 1, Pc: last}), last+1) {
		return api.ErrFlow, check.Place{Fn: 1, Pc: last}
	}
	for pc, kinds := range have {
		at := check.Place{Fn: 1, Pc: pc}
		if kinds == nil {
			continue
		}
		if _, bad := behindOf(p, at, kinds); bad {
			return api.ErrKind, at
		}
	}
	return api.OK, check.Place{}
}

// followed has what follow finds of the function 1.
func followed(p api.Program) [][]int {
	m := &Maps{kinds: map[check.Place][]int{}}
	m.follow(p, 1)
	have := make([][]int, len(p.Funcs[1].Code))
	for pc := range have {
		if m.Reached(1, pc) {
			have[pc] = append([]int{}, m.Kinds(1, pc)...)
		}
	}
	return have
}

// P1203: drawn functions, held against all places looked at together till nothing changes.
func TestProgramAsPlainRounds(t *testing.T) {
	d := &draw{state: 11}
	seen := map[api.Errno]int{}
	for range 20000 {
		p := pair(drawn(d, 1+d.below(4), 1+d.below(12), allOps...))
		want := settled(p)
		if got := followed(p); !sameRows(got, want) {
			t.Fatalf("kinds of %v: %v, not %v", p.Funcs[1], got, want)
		}
		e, at := told(p, want)
		seen[e]++
		if m := wantProgram(t, p, e, at); m != nil {
			wantKinds(t, m, 1, want...)
		}
	}
	for _, e := range []api.Errno{api.OK, api.ErrFlow, api.ErrKind} {
		if seen[e] < 500 {
			t.Errorf("%v was told only %d times", e, seen[e])
		}
	}
}

// rowsOf tells all rows of so many slots of these kinds.
func rowsOf(slots int, kinds ...int) [][]int {
	rows := [][]int{{}}
	for range slots {
		var more [][]int
		for _, r := range rows {
			for _, kind := range kinds {
				more = append(more, append(slices.Clone(r), kind))
			}
		}
		rows = more
	}
	return rows
}

// tried goes through all kinds that the places that are reached may have, and tells those that are what comes there.
func tried(p api.Program, reached [][]int, rows [][]int, have [][]int, found *[][][]int) {
	pc := len(have)
	if pc == len(reached) {
		if sameRows(meeting(p, have), have) {
			*found = append(*found, slices.Clone(have))
		}
		return
	}
	if reached[pc] == nil {
		tried(p, reached, rows, append(have, nil), found)
		return
	}
	for _, r := range rows {
		tried(p, reached, rows, append(slices.Clone(have), r), found)
	}
}

func countKinds(have [][]int) int {
	n := 0
	for _, kinds := range have {
		for _, kind := range kinds {
			if kind != api.None {
				n++
			}
		}
	}
	return n
}

// P1203: of all kinds that are the Join of what comes, the ones of Program are those that have most.
func TestProgramHasTheGreatest(t *testing.T) {
	d := &draw{state: 5}
	rows := rowsOf(2, api.None, api.Int, api.Ptr)
	several := 0
	for range 150 {
		f := drawn(d, 2, 4, api.SetInt, api.Move, api.Move, api.Jump, api.If, api.If, api.SetNil, api.Nop)
		f.Args = nil
		p := pair(f)
		for k, i := range f.Code {
			if i.Op == api.SetNil {
				p.Funcs[1].Code[k].B = 0
			}
		}
		got := followed(p)
		var found [][][]int
		tried(p, got, rows, nil, &found)
		most, times := -1, 0
		var best [][]int
		for _, have := range found {
			switch n := countKinds(have); {
			case n > most:
				most, times, best = n, 1, have
			case n == most:
				times++
			}
		}
		if times != 1 || !sameRows(best, got) {
			t.Fatalf("kinds of %v: %v, not %v (%d of %d as great)", f.Code, got, best, times, len(found))
		}
		if len(found) > 1 {
			several++
		}
	}
	if several == 0 {
		t.Error("there was never more than one choice of kinds")
	}
}

// P1203: a program as great as may be is gone through.
func TestProgramOfGreatestSize(t *testing.T) {
	var p api.Program
	p.Shapes = []api.Shape{{Fields: []int{api.Int}}}
	for range api.MaxFuncs {
		f := fn(api.MaxSlots)
		for pc := range api.MaxCode - 1 {
			f.Code = append(f.Code, in(api.SetInt, pc%api.MaxSlots, pc, 0))
			if pc >= api.MaxSlots {
				f.Code[pc] = in(api.If, pc%api.MaxSlots, (pc*29+3)%api.MaxCode, 0)
			}
		}
		f.Code = append(f.Code, exit)
		p.Funcs = append(p.Funcs, f)
	}
	m := wantProgram(t, p, api.OK, check.Place{})
	for fn := range api.MaxFuncs {
		if got := m.Kinds(fn, 63); !slices.Equal(got, slices.Repeat([]int{api.Int}, api.MaxSlots)) {
			t.Errorf("kinds at the last place of the function %d: %v", fn, got)
		}
	}
}
