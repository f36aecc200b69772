// Package engine runs a program's tasks, turn by turn. It has no lock: whoever holds an engine keeps others out.
package engine

import (
	"slices"

	"turnstile/api"
	"turnstile/cells"
	"turnstile/code"
)

// Engine is a program with its tasks and cells.
type Engine struct {
	functions []code.Function
	quantum   int
	work      int // units of the collector at a turn
	most      int // tasks that may live
	actions   [api.Instructions]action
	store     *cells.Store
	clock     int64
	living    []*task
	outcomes  []cells.Value // of all tasks there were, the one with the number n at n-1; of one that lives the number 0
	kept      []cells.Value // the cells among the outcomes, each once: no more than there are, however many tasks end
	queue     line
	sleepers  line // by their time
	sockets   [api.Sockets]socket
	spent     bool
	events    []api.Event // of the turn that is going on
}

// New is an engine at the time 0, with the first task in the queue.
func New(functions []code.Function, c api.Config) *Engine {
	e := &Engine{functions: functions, quantum: c.Quantum, work: c.Work, most: c.Tasks, actions: actions()}
	e.store = cells.New(c.Cells, e.visitRoots)
	e.begin(0, cells.Number(0), cells.Number(0))
	return e
}

// Turn is one turn. It gives the turn's events.
func (e *Engine) Turn(ticks int64, in []api.Input) []api.Event {
	e.clock = e.after(ticks)
	e.receive(in)
	if e.lives() && !e.spent {
		e.wakeSleepers()
		e.runFirst()
		e.store.Work(e.work)
	}
	events := e.events
	e.events = nil
	return events
}

// runFirst lets the first task of the queue run.
func (e *Engine) runFirst() {
	if e.queue.empty() {
		return
	}
	t := e.queue.first()
	t.stepOut()
	t.running = true
	for n := 0; n < e.quantum && t.running; n++ {
		e.runOne(t)
	}
	if t.running {
		e.queue.join(t)
	}
}

// runOne runs one instruction. The ends of functions ahead of it are no instructions.
func (e *Engine) runOne(t *task) {
	for t.top().atEnd() {
		t.giveBack(cells.Number(0))
		if !t.running {
			return
		}
	}
	f := t.top()
	s := step{Instruction: f.take(), frame: f, task: t, engine: e}
	if why := e.actions[s.Op](s); why != none {
		e.fail(t, why)
	}
}

func (e *Engine) tell(kind int, t *task, n int64) {
	e.events = append(e.events, api.Event{Kind: kind, Task: t.number, N: n})
}

// visitRoots visits the values from which cells can be reached.
func (e *Engine) visitRoots(visit func(cells.Value)) {
	for _, t := range e.living {
		t.visit(visit)
	}
	for _, v := range e.kept {
		visit(v)
	}
}

// lives tells if a task lives.
func (e *Engine) lives() bool { return len(e.living) > 0 }

// waits tells if a task sleeps or reads.
func (e *Engine) waits() bool {
	reads := func(s socket) bool { return !s.readers.empty() }
	return !e.sleepers.empty() || slices.ContainsFunc(e.sockets[:], reads)
}

// State tells how the machine stands.
func (e *Engine) State() int {
	switch {
	case e.spent:
		return api.Spent
	case !e.lives():
		return api.Finished
	case !e.queue.empty():
		return api.Running
	case e.waits():
		return api.Waiting
	}
	return api.Stuck
}

// Queue tells the numbers of the tasks in the queue.
func (e *Engine) Queue() []int {
	numbers := make([]int, len(e.queue.tasks))
	for i, t := range e.queue.tasks {
		numbers[i] = t.number
	}
	return numbers
}

// Clock tells the time.
func (e *Engine) Clock() int64 { return e.clock }

// Occupied tells how many cells are not free.
func (e *Engine) Occupied() int { return e.store.Occupied() }

// Counts tells what the collector has done.
func (e *Engine) Counts() api.Counts { return e.store.Counts() }
