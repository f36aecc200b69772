package engine

import (
	"slices"
	"testing"

	"turnstile/api"
	"turnstile/cells"
	"turnstile/code"
)

// What a task had is let go when it lives no more; the outcome stays.
func TestOutcomesStay(t *testing.T) {
	for _, c := range []struct {
		code []code.Instruction
		want int64
	}{
		{[]code.Instruction{{Op: api.Num, B: 255, C: 251}, {Op: api.Return}}, -5},
		{[]code.Instruction{{Op: api.Num, B: 0, C: 5}}, 0},
		{[]code.Instruction{{Op: api.Get}}, -api.BadCell},
		{[]code.Instruction{{Op: api.Call}}, -api.BadFunction},
	} {
		e := of(c.code...)
		for range 3 {
			e.Turn(0, nil)
		}
		first := e.tasks[0]
		if n, ok := first.outcome.Number(); n != c.want || !ok || first.frames != nil {
			t.Errorf("the outcome of %v is %d, %v, want %d", c.code, n, ok, c.want)
		}
	}
	e := of(code.Instruction{Op: api.Cell, A: 1, B: 3}, code.Instruction{Op: api.Return, A: 1})
	e.Turn(0, nil)
	if slots, ok := e.store.Slots(e.tasks[0].outcome); !ok || len(slots) != 3 {
		t.Errorf("the outcome is no cell with 3 slots: %v, %v", slots, ok)
	}
	// The outcome lets the only cell be reached.
	if v, ok := e.store.NewSlots(0); ok {
		t.Errorf("P9: the cell of an outcome was freed: %v", v)
	}
}

func wantTurn(t *testing.T, e *Engine, queue []int, want ...api.Event) {
	t.Helper()
	if got := e.Turn(0, nil); !slices.Equal(got, want) || !slices.Equal(e.Queue(), queue) {
		t.Errorf("P4: a turn tells %v and leaves %v, want %v and %v", got, e.Queue(), want, queue)
	}
}

// A spent machine lets no other task of its queue run.
func TestSpentMachineRunsNoOther(t *testing.T) {
	e := of(code.Instruction{Op: api.Emit}, code.Instruction{Op: api.Cell, A: 1}, code.Instruction{Op: api.Cell, A: 1})
	e.begin(0, cells.Number(0), cells.Number(0))
	wantTurn(t, e, []int{2}, api.Event{Kind: api.Emitted, Task: 1}, api.Event{Kind: api.Memory, Task: 1})
	wantTurn(t, e, []int{2})
	if e.State() != api.Spent {
		t.Errorf("P10: the state is %d, want %d", e.State(), api.Spent)
	}
}

// A machine with a task that lives goes on, though another has ended.
func TestEachTaskHasItsOwnEnd(t *testing.T) {
	e := of(code.Instruction{Op: api.Emit}, code.Instruction{Op: api.Unless, B: 0, C: 3}, code.Instruction{Op: api.Yield}, code.Instruction{Op: api.Return})
	e.begin(0, cells.Number(7), cells.Number(0))
	wantTurn(t, e, []int{2}, api.Event{Kind: api.Emitted, Task: 1}, api.Event{Kind: api.Ended, Task: 1})
	wantTurn(t, e, []int{2}, api.Event{Kind: api.Emitted, Task: 2, N: 7})
	if e.State() != api.Running {
		t.Errorf("P10: the state is %d, want %d", e.State(), api.Running)
	}
	wantTurn(t, e, nil, api.Event{Kind: api.Ended, Task: 2, N: 7})
	if e.State() != api.Finished {
		t.Errorf("P10: the state is %d, want %d", e.State(), api.Finished)
	}
}
