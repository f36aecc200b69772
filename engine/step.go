package engine

import (
	"turnstile/api"
	"turnstile/cells"
	"turnstile/code"
)

// step is an instruction that a task runs, in one of its functions.
type step struct {
	code.Instruction
	frame  *frame
	task   *task
	engine *Engine
}

// a, b and c are what is in the registers of these operands.
func (s step) a() cells.Value { return s.frame.registers[s.A] }
func (s step) b() cells.Value { return s.frame.registers[s.B] }
func (s step) c() cells.Value { return s.frame.registers[s.C] }

// set lets a be a value. It may be called long after the step: with what a function gives that was called, or with what the task has waited for.
func (s step) set(v cells.Value) { s.frame.registers[s.A] = v }

func (s step) newCell() (cells.Value, bool) { return s.engine.store.NewSlots(int(s.B)) }

func (s step) newFunction() (cells.Value, bool) {
	return s.engine.store.NewFunction(int(s.B), s.c())
}

func (s step) getSlot() failure {
	n, why := s.slot(s.b(), s.c())
	if why != none {
		return why
	}
	s.set(s.engine.store.Slot(s.b(), n))
	return none
}

func (s step) putSlot() failure {
	n, why := s.slot(s.a(), s.b())
	if why != none {
		return why
	}
	s.engine.store.SetSlot(s.a(), n, s.c())
	return none
}

// slot tells which slot of a cell is meant, or why there is none.
func (s step) slot(cell, index cells.Value) (int, failure) {
	slots, ok := s.engine.store.Slots(cell)
	if !ok {
		return 0, api.BadCell
	}
	n, ok := index.Number()
	if !ok {
		return 0, api.BadNumber
	}
	if n < 0 || n >= int64(slots) {
		return 0, api.BadIndex
	}
	return int(n), none
}

func (s step) call() failure {
	function, caught, ok := s.engine.store.Function(s.b())
	if !ok {
		return api.BadFunction
	}
	if len(s.task.frames) == api.MaxFrames {
		return api.TooDeep
	}
	s.engine.enter(s.task, function, s.c(), caught, s.set)
	return none
}

func (s step) spawn() failure {
	function, caught, ok := s.engine.store.Function(s.b())
	if !ok {
		return api.BadFunction
	}
	if len(s.engine.living) == s.engine.most {
		return api.TooMany
	}
	number := s.engine.begin(function, s.c(), caught)
	s.set(cells.Number(int64(number)))
	return none
}

func (s step) emit(n int64) failure {
	s.engine.tell(api.Emitted, s.task, n)
	return none
}

func (s step) sleep(ticks int64) failure {
	s.engine.sleep(s.task, ticks)
	return none
}

func (s step) await(number int64) failure {
	if !s.engine.isTask(number) || number == int64(s.task.number) {
		return api.NoTask
	}
	if t, ok := s.engine.alive(number); ok {
		s.wait(&t.awaitedBy)
	} else {
		s.set(s.engine.outcomes[number-1])
	}
	return none
}

func (s step) cancel(number int64) failure {
	if !s.engine.isTask(number) {
		return api.NoTask
	}
	if t, ok := s.engine.alive(number); ok {
		s.engine.cancel(t)
	}
	return none
}

func (s step) read(number int64) failure {
	from, ok := s.engine.socket(number)
	if !ok {
		return api.BadSocket
	}
	if b, ok := from.take(); ok {
		s.set(cells.Number(int64(b)))
	} else {
		s.wait(&from.readers)
	}
	return none
}

// wait lets the task wait in a line. The function that it leaves behind there takes what it waits for into a, and the task back to the queue.
func (s step) wait(l *line) {
	l.join(s.task)
	s.task.left = func(v cells.Value) {
		s.set(v)
		s.engine.queue.join(s.task)
	}
}
