package engine

import (
	"slices"

	"turnstile/cells"
	"turnstile/code"
)

// task is one task that lives, with the functions that are running in it.
type task struct {
	number    int
	frames    []*frame // each called by the one ahead of it
	running   bool
	line      *line             // where it stands, if it does not run
	left      func(cells.Value) // what it has left behind there, if it waits: is called with what it waits for
	until     int64             // the time, if it sleeps
	awaitedBy line
}

// frame is a function that is running.
type frame struct {
	code      []code.Instruction
	next      int // the instruction that is run next
	registers []cells.Value
	back      func(cells.Value) // is called with what the function gives
}

func (f *frame) atEnd() bool { return f.next == len(f.code) }

// take gives the next instruction, and goes on behind it.
func (f *frame) take() code.Instruction {
	i := f.code[f.next]
	f.next++
	return i
}

func (t *task) top() *frame { return t.frames[len(t.frames)-1] }

// giveBack ends the function that was called last.
func (t *task) giveBack(v cells.Value) {
	last := t.top()
	t.frames = slices.Delete(t.frames, len(t.frames)-1, len(t.frames))
	last.back(v)
}

// visit visits the values from which a task lets cells be reached.
func (t *task) visit(visit func(cells.Value)) {
	for _, f := range t.frames {
		for _, v := range f.registers {
			visit(v)
		}
	}
}

// enter lets a function run in a task; back is called with what it gives.
func (e *Engine) enter(t *task, function int, argument, caught cells.Value, back func(cells.Value)) {
	f := e.functions[function]
	registers := make([]cells.Value, f.Registers)
	registers[0], registers[1] = argument, caught
	t.frames = append(t.frames, &frame{code: f.Code, registers: registers, back: back})
}
