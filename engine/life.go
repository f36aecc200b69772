package engine

import (
	"slices"

	"turnstile/api"
	"turnstile/cells"
)

// begin makes a task that calls a function, and lays it at the end of the queue. It gives the task's number.
func (e *Engine) begin(function int, argument, caught cells.Value) int {
	e.outcomes = append(e.outcomes, cells.Number(0))
	t := &task{number: len(e.outcomes)}
	e.living = append(e.living, t)
	e.enter(t, function, argument, caught, func(v cells.Value) { e.end(t, v) })
	e.queue.join(t)
	return t.number
}

// isTask tells if a task has, or had, this number.
func (e *Engine) isTask(n int64) bool { return 1 <= n && n <= int64(len(e.outcomes)) }

// alive finds the task of a number; false, if none that lives has it.
func (e *Engine) alive(n int64) (*task, bool) {
	at := slices.IndexFunc(e.living, func(t *task) bool { return int64(t.number) == n })
	if at < 0 {
		return nil, false
	}
	return e.living[at], true
}

// end is how a task ends whose first function gives a value. (A cell's number is 0.)
func (e *Engine) end(t *task, v cells.Value) {
	n, _ := v.Number()
	e.leave(t, v, api.Ended, n)
}

func (e *Engine) fail(t *task, why failure) {
	e.leave(t, cells.Number(-int64(why)), api.Failed, int64(why))
}

func (e *Engine) cancel(t *task) {
	e.leave(t, cells.Number(api.GoneCode), api.Cancelled, 0)
}

// leave ends the life of a task, wherever it is, with an outcome and an event: of what it had only the outcome stays, which those get that await it.
func (e *Engine) leave(t *task, outcome cells.Value, kind int, n int64) {
	t.stepOut()
	t.running = false
	e.living = slices.DeleteFunc(e.living, func(other *task) bool { return other == t })
	e.keep(t.number, outcome)
	e.tell(kind, t, n)
	for !t.awaitedBy.empty() {
		t.awaitedBy.first().left(outcome)
	}
}

// keep lets the outcome of a task stay.
func (e *Engine) keep(number int, outcome cells.Value) {
	e.outcomes[number-1] = outcome
	if _, isNumber := outcome.Number(); !isNumber && !slices.Contains(e.kept, outcome) {
		e.kept = append(e.kept, outcome)
	}
}

// spend stops the machine at a task that asked for a cell when none was free.
func (e *Engine) spend(t *task) {
	t.running = false
	e.spent = true
	e.tell(api.Memory, t, 0)
}
