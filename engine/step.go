package engine

import (
	"turnstile/api"
	"turnstile/cells"
	"turnstile/code"
)

// step is an instruction that a task runs, in one of its functions.
type step struct {
	code.Instruction
	frame  *frame
	task   *task
	engine *Engine
}

// a, b and c are what is in the registers of these operands.
func (s step) a() cells.Value { return s.frame.registers[s.A] }
func (s step) b() cells.Value { return s.frame.registers[s.B] }
func (s step) c() cells.Value { return s.frame.registers[s.C] }

// set lets a be a value. It may be called long after the step, with what the task has waited for.
func (s step) set(v cells.Value) { s.frame.registers[s.A] = v }

func (s step) newCell() (cells.Value, bool) { return s.engine.store.NewSlots(int(s.B)) }

func (s step) newFunction() (cells.Value, bool) {
	return s.engine.store.NewFunction(int(s.B), s.c())
}

func (s step) getSlot() failure {
	slot, why := s.slot(s.b(), s.c())
	if why != none {
		return why
	}
	s.set(*slot)
	return none
}

func (s step) putSlot() failure {
	slot, why := s.slot(s.a(), s.b())
	if why != none {
		return why
	}
	*slot = s.c()
	return none
}

// slot finds the slot of a cell, or tells why there is none.
func (s step) slot(cell, index cells.Value) (*cells.Value, failure) {
	slots, ok := s.engine.store.Slots(cell)
	if !ok {
		return nil, api.BadCell
	}
	n, ok := index.Number()
	if !ok {
		return nil, api.BadNumber
	}
	if n < 0 || n >= int64(len(slots)) {
		return nil, api.BadIndex
	}
	return &slots[n], none
}

func (s step) call() failure {
	function, caught, ok := s.engine.store.Function(s.b())
	if !ok {
		return api.BadFunction
	}
	if len(s.task.frames) == api.MaxFrames {
		return api.TooDeep
	}
	s.engine.enter(s.task, function, s.c(), caught, s.set)
	return none
}

func (s step) emit() failure {
	n, ok := s.a().Number()
	if !ok {
		return api.BadNumber
	}
	s.engine.tell(api.Emitted, s.task, n)
	return none
}
