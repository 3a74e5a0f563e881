package flow

import (
	"slices"

	"besom/api"
	"besom/check"
	"besom/instr"
	"besom/shape"
)

// Step tells the kinds behind an instruction.
func Step(p api.Program, at check.Place, kinds []int) ([]int, api.Errno) {
	f, i, is := find(p, at)
	if !is || len(kinds) != f.Slots {
		return nil, api.ErrArg
	}
	if e := check.Instr(p, at); e != api.OK {
		return nil, e
	}
	s := site{program: p, host: f, instr: i, kinds: kinds}
	if !s.mayRead() {
		return nil, api.ErrKind
	}
	return s.behind(), api.OK
}

// Join tells what two lists of kinds have in common.
func Join(a, b []int) []int {
	common := make([]int, min(len(a), len(b)))
	for k := range common {
		if a[k] == b[k] {
			common[k] = a[k]
		}
	}
	return common
}

// Next tells where an instruction may go on.
func Next(p api.Program, at check.Place) []int {
	_, i, is := find(p, at)
	if !is {
		return nil
	}
	next := at.Pc + 1
	switch i.Op {
	case api.Jump:
		return []int{i.B}
	case api.If:
		if i.B != next {
			return []int{next, i.B}
		}
	case api.Ret, api.Panic, api.Exit:
		return nil
	}
	return []int{next}
}

// find has the instruction at a place, and the function whose it is; false if there is no such place.
func find(p api.Program, at check.Place) (api.Func, api.Instr, bool) {
	if at.Fn < 0 || at.Fn >= len(p.Funcs) {
		return api.Func{}, api.Instr{}, false
	}
	f := p.Funcs[at.Fn]
	if at.Pc < 0 || at.Pc >= len(f.Code) {
		return api.Func{}, api.Instr{}, false
	}
	return f, f.Code[at.Pc], true
}

// site is an instruction of a form that may be, what it stands in, and the kinds that are there.
type site struct {
	program api.Program
	host    api.Func // the function whose it is
	instr   api.Instr
	kinds   []int
}

// mayRead tells whether all that it reads has the kind that it asks for.
func (s site) mayRead() bool {
	i := s.instr
	switch i.Op {
	case api.Move:
		return s.kinds[i.B] != api.None
	case api.Add, api.Sub, api.Mul, api.Shl, api.Shr, api.Less:
		return s.kinds[i.B] == api.Int && s.kinds[i.C] == api.Int
	case api.If, api.Output:
		return s.kinds[i.A] == api.Int
	case api.IsNil:
		_, is := shape.Points(s.kinds[i.B])
		return is
	case api.Load, api.LLoad:
		_, is := s.field(i.B, i.C)
		return is
	case api.Store, api.LStore:
		kind, is := s.field(i.A, i.B)
		return is && s.kinds[i.C] == kind
	case api.GStore:
		return s.kinds[i.B] == s.program.Globals[i.A]
	case api.Call, api.Spawn, api.Defer:
		return s.mayPass()
	case api.Ret:
		return !hasResult(s.host) || s.kinds[i.A] == s.host.Result
	case api.Panic:
		return s.kinds[i.A] == api.Int && s.kinds[i.B] == api.Ptr
	}
	return true
}

// field tells the kind of a field of what a slot leads to, as the op goes by pointers or by places; false if the slot does not lead there, or there is no such field.
func (s site) field(slot, field int) (int, bool) {
	leads := shape.Points
	if s.instr.Op == api.LLoad || s.instr.Op == api.LStore {
		leads = shape.Places
	}
	k, is := leads(s.kinds[slot])
	if !is || k >= len(s.program.Shapes) {
		return api.None, false
	}
	fields := s.program.Shapes[k].Fields
	if field >= len(fields) {
		return api.None, false
	}
	return fields[field], true
}

// callee has the function that it names.
func (s site) callee() api.Func { return s.program.Funcs[s.instr.B] }

// mayPass tells whether the slots from C on have the kinds of the arguments.
func (s site) mayPass() bool {
	args := s.callee().Args
	return slices.Equal(s.kinds[s.instr.C:s.instr.C+len(args)], args)
}

// hasResult tells whether a function has a result.
func hasResult(f api.Func) bool { return f.Result != api.None }

// setting is a slot that is set, and the kind that it has then.
type setting struct{ slot, kind int }

// behind has the kinds behind it: what it sets when it read what it may not is of no kind.
func (s site) behind() []int {
	may := s.mayRead()
	kinds := slices.Clone(s.kinds)
	for _, v := range s.settings() {
		if !may {
			v.kind = api.None
		}
		kinds[v.slot] = v.kind
	}
	return kinds
}

// settings tells what it sets, in its order.
func (s site) settings() []setting {
	a, is := instr.Writes(s.instr)
	if !is || s.instr.Op == api.Call && !hasResult(s.callee()) {
		return nil
	}
	l := []setting{{a, s.kindSet()}}
	if s.instr.Op == api.Recover {
		l = append(l, setting{s.instr.B, api.Ptr})
	}
	return l
}

// kindSet tells the kind that it sets its A to, if it sets it.
func (s site) kindSet() int {
	i := s.instr
	switch i.Op {
	case api.Move:
		return s.kinds[i.B]
	case api.SetNil, api.New:
		return api.Ptr + i.B
	case api.Load, api.LLoad:
		kind, _ := s.field(i.B, i.C)
		return kind
	case api.GLoad:
		return s.program.Globals[i.B]
	case api.Addr:
		return api.Loc + s.host.Objects[i.B]
	case api.Call:
		return s.callee().Result
	}
	return api.Int
}
