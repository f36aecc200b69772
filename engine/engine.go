// Package engine runs a program's tasks, turn by turn. It has no lock: whoever holds an engine keeps others out.
package engine

import (
	"math"
	"slices"

	"turnstile/api"
	"turnstile/cells"
	"turnstile/code"
)

// Engine is a program with its tasks and cells.
type Engine struct {
	functions []code.Function
	quantum   int
	actions   [api.Instructions]action
	store     *cells.Store
	sockets   [api.Sockets]socket
	clock     int64
	tasks     []*task // all there were, the one with the number n at n-1
	living    int     // how many of them live
	queue     []*task
	spent     bool
	events    []api.Event // of the turn that is going on
}

// New is an engine at the time 0, with the first task in the queue.
func New(functions []code.Function, c api.Config) *Engine {
	e := &Engine{functions: functions, quantum: c.Quantum, actions: actions()}
	e.store = cells.New(c.Cells, e.visitRoots)
	e.begin(0, cells.Number(0), cells.Number(0))
	return e
}

// Turn is one turn. It gives the turn's events.
func (e *Engine) Turn(ticks int64, in []api.Input) []api.Event {
	e.passTime(ticks)
	e.receive(in)
	if e.living > 0 && !e.spent {
		e.runFirst()
	}
	events := e.events
	e.events = nil
	return events
}

// passTime lets the clock go on; it stays at the greatest number.
func (e *Engine) passTime(ticks int64) {
	left := math.MaxInt64 - e.clock
	e.clock += min(max(ticks, 0), left)
}

func (e *Engine) receive(in []api.Input) {
	for _, i := range in {
		if 0 <= i.Socket && i.Socket < api.Sockets {
			e.sockets[i.Socket].receive(i.Byte)
		}
	}
}

// runFirst lets the first task of the queue run.
func (e *Engine) runFirst() {
	if len(e.queue) == 0 {
		return
	}
	t := e.queue[0]
	e.queue = slices.Delete(e.queue, 0, 1)
	t.running = true
	for n := 0; n < e.quantum && t.running; n++ {
		e.runOne(t)
	}
	if t.running {
		e.yield(t)
	}
}

// runOne runs one instruction. The ends of functions ahead of it are no instructions.
func (e *Engine) runOne(t *task) {
	for t.top().atEnd() {
		t.giveBack(cells.Number(0))
		if !t.running {
			return
		}
	}
	f := t.top()
	s := step{Instruction: f.take(), frame: f, task: t, engine: e}
	if why := e.actions[s.Op](s); why != none {
		e.fail(t, why)
	}
}

func (e *Engine) tell(kind int, t *task, n int64) {
	e.events = append(e.events, api.Event{Kind: kind, Task: t.number, N: n})
}

// visitRoots visits the values from which cells can be reached.
func (e *Engine) visitRoots(visit func(cells.Value)) {
	for _, t := range e.tasks {
		t.visit(visit)
	}
}

// State tells how the machine stands. A task that lives is in the queue: nothing lets one wait elsewhere yet.
func (e *Engine) State() int {
	switch {
	case e.spent:
		return api.Spent
	case e.living == 0:
		return api.Finished
	}
	return api.Running
}

// Queue tells the numbers of the tasks in the queue.
func (e *Engine) Queue() []int {
	numbers := make([]int, len(e.queue))
	for i, t := range e.queue {
		numbers[i] = t.number
	}
	return numbers
}

// Clock tells the time.
func (e *Engine) Clock() int64 { return e.clock }
