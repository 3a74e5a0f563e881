package check

import (
	"slices"

	"besom/api"
	"besom/instr"
	"besom/shape"
)

// site is an instruction, and what it stands in.
type site struct {
	program api.Program
	host    api.Func // the function whose it is
	instr   api.Instr
}

// formed tells whether its op is one, and what it does not use is 0.
func (s site) formed() bool {
	if !instr.Known(s.instr.Op) {
		return false
	}
	a, b, c := instr.Uses(s.instr.Op)
	if s.resultless() {
		a = false
	}
	return (a || s.instr.A == 0) && (b || s.instr.B == 0) && (c || s.instr.C == 0)
}

// resultless tells whether its A would have the result of a function that has none.
func (s site) resultless() bool {
	switch s.instr.Op {
	case api.Ret:
		return !hasResult(s.host)
	case api.Call:
		f, is := function(s.program, s.instr.B)
		return is && !hasResult(f)
	}
	return false
}

// placed tells whether there is all that its operands name.
func (s site) placed() bool {
	names := namesOf(s.instr.Op)
	if s.resultless() {
		names[0] = nothing
	}
	for k, v := range [3]int{s.instr.A, s.instr.B, s.instr.C} {
		if !s.has(names[k], v) {
			return false
		}
	}
	return true
}

// name is what an operand names.
type name int

const (
	nothing name = iota // it is not used, or any number may stand there
	slot
	arguments // the first of their slots
	target
	callee
	objectShape
	global
	stackObject
	field
)

// namesOf tells what A, B and C of an op name.
func namesOf(op int) [3]name {
	switch op {
	case api.SetInt, api.Ret, api.Output:
		return [3]name{slot, nothing, nothing}
	case api.Move, api.IsNil, api.Panic, api.Recover:
		return [3]name{slot, slot, nothing}
	case api.Add, api.Sub, api.Mul, api.Shl, api.Shr, api.Less:
		return [3]name{slot, slot, slot}
	case api.Jump:
		return [3]name{nothing, target, nothing}
	case api.If:
		return [3]name{slot, target, nothing}
	case api.SetNil, api.New:
		return [3]name{slot, objectShape, nothing}
	case api.Load, api.LLoad:
		return [3]name{slot, slot, field}
	case api.Store, api.LStore:
		return [3]name{slot, field, slot}
	case api.GLoad:
		return [3]name{slot, global, nothing}
	case api.GStore:
		return [3]name{global, slot, nothing}
	case api.Addr:
		return [3]name{slot, stackObject, nothing}
	case api.Call:
		return [3]name{slot, callee, arguments}
	case api.Spawn, api.Defer:
		return [3]name{nothing, callee, arguments}
	}
	return [3]name{}
}

// has tells whether there is what an operand v names.
func (s site) has(n name, v int) bool {
	switch n {
	case slot:
		return within(v, s.host.Slots)
	case arguments:
		return s.holdsArgs(v)
	case target:
		return within(v, len(s.host.Code))
	case callee:
		return within(v, len(s.program.Funcs))
	case objectShape:
		return within(v, len(s.program.Shapes))
	case global:
		return within(v, len(s.program.Globals))
	case stackObject:
		return within(v, len(s.host.Objects))
	case field:
		return within(v, api.MaxFields)
	}
	return true
}

// holdsArgs tells whether the arguments of the function that it names are slots, from the slot v on.
func (s site) holdsArgs(v int) bool {
	// What is left behind v is reckoned only where v is within the slots, so that nothing wraps round.
	return v >= 0 && v <= s.host.Slots && s.host.Slots-v >= Args(s.program, s.instr.B)
}

// kinded tells whether the kinds that it works on are there, and may go where it takes them; all that it names is there.
func (s site) kinded() bool {
	switch s.instr.Op {
	case api.Panic, api.Recover:
		// A panic's pointer is to an object of some shape.
		return len(s.program.Shapes) > 0
	case api.Spawn, api.Defer:
		// Nobody waits there for a result, and a place would outlive the frame that it is in.
		f := s.program.Funcs[s.instr.B]
		return !hasResult(f) && !slices.ContainsFunc(f.Args, isPlace)
	}
	return true
}

// isPlace tells whether a kind is that of a stack object's place.
func isPlace(kind int) bool {
	_, is := shape.Places(kind)
	return is
}
