package engine

import (
	"slices"

	"turnstile/api"
	"turnstile/cells"
	"turnstile/code"
)

// task is one task: the functions that are running in it while it lives, its outcome when it does not.
type task struct {
	number  int
	frames  []*frame // each called by the one ahead of it
	running bool
	outcome cells.Value
}

// frame is a function that is running.
type frame struct {
	code      []code.Instruction
	next      int // the instruction that is run next
	registers []cells.Value
	back      func(cells.Value) // is called with what the function gives
}

func (f *frame) atEnd() bool { return f.next == len(f.code) }

// take gives the next instruction, and goes on behind it.
func (f *frame) take() code.Instruction {
	i := f.code[f.next]
	f.next++
	return i
}

func (t *task) top() *frame { return t.frames[len(t.frames)-1] }

// giveBack ends the function that was called last.
func (t *task) giveBack(v cells.Value) {
	last := t.top()
	t.frames = slices.Delete(t.frames, len(t.frames)-1, len(t.frames))
	last.back(v)
}

// visit visits the values from which a task lets cells be reached.
func (t *task) visit(visit func(cells.Value)) {
	for _, f := range t.frames {
		for _, v := range f.registers {
			visit(v)
		}
	}
	visit(t.outcome)
}

// begin makes a task that calls a function, and lays it at the end of the queue.
func (e *Engine) begin(function int, argument, caught cells.Value) {
	t := &task{number: len(e.tasks) + 1}
	e.tasks = append(e.tasks, t)
	e.living++
	e.enter(t, function, argument, caught, func(v cells.Value) { e.end(t, v) })
	e.queue = append(e.queue, t)
}

// enter lets a function run in a task; back is called with what it gives.
func (e *Engine) enter(t *task, function int, argument, caught cells.Value, back func(cells.Value)) {
	f := e.functions[function]
	registers := make([]cells.Value, f.Registers)
	registers[0], registers[1] = argument, caught
	t.frames = append(t.frames, &frame{code: f.Code, registers: registers, back: back})
}

// yield lays the task that is running at the end of the queue.
func (e *Engine) yield(t *task) {
	t.running = false
	e.queue = append(e.queue, t)
}

// end is how a task ends whose first function gives a value. (A cell's number is 0.)
func (e *Engine) end(t *task, v cells.Value) {
	n, _ := v.Number()
	e.leave(t, v)
	e.tell(api.Ended, t, n)
}

func (e *Engine) fail(t *task, why failure) {
	e.leave(t, cells.Number(-int64(why)))
	e.tell(api.Failed, t, int64(why))
}

// leave ends the life of a task: of what it had only the outcome stays.
func (e *Engine) leave(t *task, outcome cells.Value) {
	t.running = false
	t.frames = nil
	t.outcome = outcome
	e.living--
}

// spend stops the machine at a task that asked for a cell when none was free.
func (e *Engine) spend(t *task) {
	t.running = false
	e.spent = true
	e.tell(api.Memory, t, 0)
}
