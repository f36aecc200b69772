package engine

import (
	"turnstile/api"
	"turnstile/cells"
)

// failure is why a task fails, by the numbers of package api.
type failure int64

// none is the failure of an instruction that did what it does.
const none failure = 0

// action is what an instruction does. One that fails has done nothing.
type action func(step) failure

// actions is the table of what the instructions do.
func actions() [api.Instructions]action {
	return [api.Instructions]action{
		api.Num:    gives(func(s step) cells.Value { return cells.Number(s.Number()) }),
		api.Move:   gives(step.b),
		api.Add:    ofNumbers(func(b, c int64) int64 { return b + c }),
		api.Sub:    ofNumbers(func(b, c int64) int64 { return b - c }),
		api.Mul:    ofNumbers(func(b, c int64) int64 { return b * c }),
		api.Less:   ofNumbers(func(b, c int64) int64 { return oneIf(b < c) }),
		api.Same:   gives(func(s step) cells.Value { return cells.Number(oneIf(s.b() == s.c())) }),
		api.Jump:   goesOn(func(step) bool { return true }),
		api.Unless: goesOn(func(s step) bool { return s.a() == cells.Number(0) }),
		api.Cell:   makes(step.newCell),
		api.Get:    step.getSlot,
		api.Put:    step.putSlot,
		api.Func:   makes(step.newFunction),
		api.Call:   step.call,
		api.Return: does(func(s step) { s.task.giveBack(s.a()) }),
		api.Spawn:  step.spawn,
		api.Yield:  does(func(s step) { s.engine.queue.join(s.task) }),
		api.Sleep:  takes(step.a, step.sleep),
		api.Await:  takes(step.b, step.await),
		api.Cancel: takes(step.a, step.cancel),
		api.Emit:   takes(step.a, step.emit),
		api.Read:   takes(step.b, step.read),
		api.Now:    gives(func(s step) cells.Value { return cells.Number(s.engine.clock) }),
	}
}

// does is an instruction that cannot fail.
func does(what func(step)) action {
	return func(s step) failure {
		what(s)
		return none
	}
}

// gives is an instruction whose a is a value that can always be told.
func gives(value func(step) cells.Value) action {
	return does(func(s step) { s.set(value(s)) })
}

// ofNumbers is an instruction whose a is a number that b and c make.
func ofNumbers(made func(b, c int64) int64) action {
	return func(s step) failure {
		b, isB := s.b().Number()
		c, isC := s.c().Number()
		if !isB || !isC {
			return api.BadNumber
		}
		s.set(cells.Number(made(b, c)))
		return none
	}
}

// takes is an instruction that does something with an operand, which must be a number.
func takes(operand func(step) cells.Value, what func(step, int64) failure) action {
	return func(s step) failure {
		n, ok := operand(s).Number()
		if !ok {
			return api.BadNumber
		}
		return what(s, n)
	}
}

// goesOn is an instruction behind which the function goes on at t, if a thing is so.
func goesOn(isSo func(step) bool) action {
	return does(func(s step) {
		if isSo(s) {
			s.frame.next = s.Target()
		}
	})
}

// makes is an instruction whose a is a new cell.
func makes(cell func(step) (cells.Value, bool)) action {
	return does(func(s step) {
		if v, ok := cell(s); ok {
			s.set(v)
		} else {
			s.engine.spend(s.task)
		}
	})
}

func oneIf(so bool) int64 {
	if so {
		return 1
	}
	return 0
}
