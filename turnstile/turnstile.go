// Package turnstile: tasks that take turns: see DOC.md.
package turnstile

import (
	"sync"

	"turnstile/api"
	"turnstile/code"
	"turnstile/engine"
)

// Machine is a machine with its program. It is locked here, at its face: what is inside knows of no other goroutine.
type Machine struct {
	lock   sync.Mutex
	engine *engine.Engine
}

// Load looks at a program and makes a machine (P3).
func Load(program string, c api.Config) (*Machine, api.Fault) {
	if !mayBe(c) {
		return nil, api.Fault{Code: api.ErrConfig}
	}
	functions, at, ok := code.Read(program)
	if !ok {
		return nil, api.Fault{Code: api.ErrProgram, At: at}
	}
	return &Machine{engine: engine.New(functions, c)}, api.Fault{}
}

// Turn is one turn (P4 to P9, P11).
func (m *Machine) Turn(ticks int64, in []api.Input) []api.Event {
	m.lock.Lock()
	defer m.lock.Unlock()
	return m.engine.Turn(ticks, in)
}

// State tells how the machine stands (P10).
func (m *Machine) State() int {
	m.lock.Lock()
	defer m.lock.Unlock()
	return m.engine.State()
}

// Queue tells the tasks in the queue (P10).
func (m *Machine) Queue() []int {
	m.lock.Lock()
	defer m.lock.Unlock()
	return m.engine.Queue()
}

// Clock tells the time (P10).
func (m *Machine) Clock() int64 {
	m.lock.Lock()
	defer m.lock.Unlock()
	return m.engine.Clock()
}

// Occupied tells how many cells are not free (P11).
func (m *Machine) Occupied() int {
	m.lock.Lock()
	defer m.lock.Unlock()
	return m.engine.Occupied()
}

// Counts tells what the collector has done (P11).
func (m *Machine) Counts() api.Counts {
	m.lock.Lock()
	defer m.lock.Unlock()
	return m.engine.Counts()
}
