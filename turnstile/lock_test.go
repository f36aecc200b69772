package turnstile

import (
	"runtime"
	"sync/atomic"
	"testing"

	"turnstile/api"
)

// Each call waits while another one goes on.
func TestCallsWaitForOneAnother(t *testing.T) {
	for name, call := range map[string]func(*Machine){
		"Turn":     func(m *Machine) { m.Turn(0, nil) },
		"State":    func(m *Machine) { m.State() },
		"Queue":    func(m *Machine) { m.Queue() },
		"Clock":    func(m *Machine) { m.Clock() },
		"Occupied": func(m *Machine) { m.Occupied() },
		"Counts":   func(m *Machine) { m.Counts() },
	} {
		m, _ := Load("\x01\x02\x01\x10\x00\x00\x00", api.Config{Cells: 1, Quantum: 1, Work: 1, Tasks: 1})
		var let atomic.Bool
		waited := make(chan bool)
		m.lock.Lock()
		go func() {
			call(m)
			waited <- let.Load()
		}()
		for range 1000 {
			runtime.Gosched()
		}
		let.Store(true)
		m.lock.Unlock()
		if !<-waited {
			t.Errorf("P2: %s did not wait", name)
		}
		call(m) // It has unlocked what it had locked.
	}
}
