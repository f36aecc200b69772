package engine

import (
	"slices"
	"testing"

	"turnstile/api"
	"turnstile/cells"
	"turnstile/code"
)

// What a task had is let go when it lives no more; the outcome stays.
func TestOutcomesStay(t *testing.T) {
	for _, c := range []struct {
		code []code.Instruction
		want int64
	}{
		{[]code.Instruction{{Op: api.Num, B: 255, C: 251}, {Op: api.Return}}, -5},
		{[]code.Instruction{{Op: api.Num, B: 0, C: 5}}, 0},
		{[]code.Instruction{{Op: api.Get}}, -api.BadCell},
		{[]code.Instruction{{Op: api.Call}}, -api.BadFunction},
	} {
		e := of(c.code...)
		for range 3 {
			e.Turn(0, nil)
		}
		if n, ok := e.outcomes[0].Number(); n != c.want || !ok || len(e.living) > 0 || e.kept != nil {
			t.Errorf("the outcome of %v is %d, %v, want %d", c.code, n, ok, c.want)
		}
	}
	e := of(code.Instruction{Op: api.Cell, A: 1, B: 3}, code.Instruction{Op: api.Return, A: 1})
	e.Turn(0, nil)
	if slots, ok := e.store.Slots(e.outcomes[0]); !ok || slots != 3 {
		t.Errorf("the outcome is no cell with 3 slots: %d, %v", slots, ok)
	}
	// The outcome lets the only cell be reached.
	if v, ok := e.store.NewSlots(0); ok {
		t.Errorf("P9: the cell of an outcome was freed: %v", v)
	}
}

func wantTurn(t *testing.T, e *Engine, queue []int, want ...api.Event) {
	t.Helper()
	if got := e.Turn(0, nil); !slices.Equal(got, want) || !slices.Equal(e.Queue(), queue) {
		t.Errorf("P4: a turn tells %v and leaves %v, want %v and %v", got, e.Queue(), want, queue)
	}
}

// A spent machine lets no other task of its queue run.
func TestSpentMachineRunsNoOther(t *testing.T) {
	e := of(code.Instruction{Op: api.Emit}, code.Instruction{Op: api.Cell, A: 1}, code.Instruction{Op: api.Cell, A: 1})
	e.begin(0, cells.Number(0), cells.Number(0))
	wantTurn(t, e, []int{2}, api.Event{Kind: api.Emitted, Task: 1}, api.Event{Kind: api.Memory, Task: 1})
	wantTurn(t, e, []int{2})
	if e.State() != api.Spent {
		t.Errorf("P10: the state is %d, want %d", e.State(), api.Spent)
	}
}

// A machine with a task that lives goes on, though another has ended.
func TestEachTaskHasItsOwnEnd(t *testing.T) {
	e := of(code.Instruction{Op: api.Emit}, code.Instruction{Op: api.Unless, B: 0, C: 3}, code.Instruction{Op: api.Yield}, code.Instruction{Op: api.Return})
	e.begin(0, cells.Number(7), cells.Number(0))
	wantTurn(t, e, []int{2}, api.Event{Kind: api.Emitted, Task: 1}, api.Event{Kind: api.Ended, Task: 1})
	wantTurn(t, e, []int{2}, api.Event{Kind: api.Emitted, Task: 2, N: 7})
	if e.State() != api.Running {
		t.Errorf("P10: the state is %d, want %d", e.State(), api.Running)
	}
	wantTurn(t, e, nil, api.Event{Kind: api.Ended, Task: 2, N: 7})
	if e.State() != api.Finished {
		t.Errorf("P10: the state is %d, want %d", e.State(), api.Finished)
	}
}

// However many tasks there were, only their outcomes are kept: no task that lives no more stands in a line or is found, and a cell is kept once.
func TestOnlyOutcomesAreKept(t *testing.T) {
	main := []code.Instruction{
		{Op: api.Func, A: 2, B: 1, C: 0}, {Op: api.Cell, A: 3},
		{Op: api.Spawn, A: 4, B: 2, C: 3}, {Op: api.Await, A: 5, B: 4}, {Op: api.Spawn, A: 4, B: 2, C: 3}, {Op: api.Cancel, A: 4}, {Op: api.Jump, C: 2},
	}
	echo := []code.Instruction{{Op: api.Return}}
	e := New([]code.Function{{Registers: 6, Code: main}, {Registers: 2, Code: echo}}, api.Config{Cells: 2, Quantum: 50, Work: 1, Tasks: 2})
	for range 1000 {
		e.Turn(1, nil)
	}
	if n := len(e.outcomes); n < 900 || len(e.living) != 1 || len(e.kept) != 1 || len(e.queue.tasks)+len(e.sleepers.tasks) > 1 {
		t.Errorf("of %d tasks live %d, and %d cells are kept", n, len(e.living), len(e.kept))
	}
	for n := range int64(len(e.outcomes)) + 3 {
		if _, ok := e.alive(n); ok != (n == 1) {
			t.Errorf("the task %d lives: %v", n, ok)
		}
	}
}

// A task that goes on has taken along what it left behind.
func TestWhatIsLeftBehindIsTakenAlong(t *testing.T) {
	e := of(code.Instruction{Op: api.Read}, code.Instruction{Op: api.Jump})
	e.Turn(0, nil)
	first := e.living[0]
	if first.left == nil || first.line != &e.sockets[0].readers {
		t.Fatalf("a task that reads has left nothing behind")
	}
	e.receive(to(0, "a"))
	if n, ok := first.top().registers[0].Number(); n != 'a' || !ok || first.left != nil || first.line != &e.queue || !e.sockets[0].readers.empty() {
		t.Errorf("behind a byte: the register is %d, what is left behind %v", n, first.left != nil)
	}
	e.cancel(first)
	if !e.queue.empty() || first.line != nil || len(e.living) != 0 {
		t.Errorf("a task that was cancelled stands in the queue: %v", e.Queue())
	}
}
