// Package turnstile: tasks that take turns: see DOC.md.
package turnstile

import (
	"slices"
	"sync"

	"turnstile/api"
	"turnstile/code"
)

// firstTask is the number of the task with which a machine begins.
const firstTask = 1

// Machine is a machine with its program.
type Machine struct {
	lock      sync.Mutex
	config    api.Config
	functions []code.Function
	clock     int64
	queue     []int
}

// Load looks at a program and makes a machine (P3).
func Load(program string, c api.Config) (*Machine, api.Fault) {
	if !mayBe(c) {
		return nil, api.Fault{Code: api.ErrConfig}
	}
	functions, at, ok := code.Read(program)
	if !ok {
		return nil, api.Fault{Code: api.ErrProgram, At: at}
	}
	return &Machine{config: c, functions: functions, queue: []int{firstTask}}, api.Fault{}
}

// Turn is one turn (P4 to P9).
func (m *Machine) Turn(ticks int64, in []api.Input) []api.Event { return nil }

// State tells how the machine stands (P10).
func (m *Machine) State() int { return 0 }

// Queue tells the tasks in the queue (P10).
func (m *Machine) Queue() []int {
	m.lock.Lock()
	defer m.lock.Unlock()
	return slices.Clone(m.queue)
}

// Clock tells the time (P10).
func (m *Machine) Clock() int64 {
	m.lock.Lock()
	defer m.lock.Unlock()
	return m.clock
}

// Occupied tells how many cells are not free (P11).
func (m *Machine) Occupied() int { return 0 }

// Counts tells what the collector has done (P11).
func (m *Machine) Counts() api.Counts { return api.Counts{} }
