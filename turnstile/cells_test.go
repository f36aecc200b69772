package turnstile_test

import (
	"slices"
	"strings"
	"testing"

	"turnstile/api"
	"turnstile/turnstile"
)

// all is what a machine tells in so many turns.
func all(m *turnstile.Machine, turns int) []api.Event {
	var events []api.Event
	for range turns {
		events = append(events, m.Turn(1, nil)...)
	}
	return events
}

// wantNeeds is a program that needs just so many cells: with them, or more, it tells this; with fewer a part of it, and then Memory.
func wantNeeds(t *testing.T, what, text string, needed int, want ...api.Event) {
	t.Helper()
	for _, quantum := range []int{1, 2, 3, 7, 50} {
		for _, cells := range []int{needed, needed + 1, needed + 2, 200} {
			m := load(t, text, config(min(cells, 200), quantum))
			if got := all(m, 600); !slices.Equal(got, want) {
				t.Errorf("P9: %s: %d cells: %v, want %v", what, cells, got, want)
			}
			wantState(t, m, api.Finished)
		}
		for cells := 1; cells < needed; cells++ {
			wantSpent(t, what, load(t, text, config(cells, quantum)), want)
		}
	}
}

func wantSpent(t *testing.T, what string, m *turnstile.Machine, whole []api.Event) {
	t.Helper()
	got := all(m, 600)
	last := len(got) - 1
	if last < 0 || !isMemory(got[last]) || last >= len(whole) || !slices.Equal(got[:last], whole[:last]) {
		t.Errorf("P9: %s: with fewer cells: %v, want a part of %v and Memory", what, got, whole)
	}
	if m.State() != api.Spent {
		t.Errorf("P10: %s: State is %d, want %d", what, m.State(), api.Spent)
	}
}

func TestExamplesOfCells(t *testing.T) {
	m := load(t, program(function(2, cell(1, 0)+num(1, 0)+jump(0))), config(1, 10))
	if got := all(m, 500); got != nil {
		t.Errorf("P9: a cell that nobody keeps: %v", got)
	}
	wantState(t, m, api.Running, 1)
	held := program(function(2, cell(1, 0)+jump(0)))
	m = load(t, held, config(1, 10))
	wantTurn(t, m, 0, memory)
	wantState(t, m, api.Spent)
	m = load(t, held, config(2, 10))
	if got := all(m, 500); got != nil {
		t.Errorf("P9: two cells are enough: %v", got)
	}
	wantState(t, m, api.Running, 1)
}

// Registers keep cells, also the one that will take the new cell.
func TestCellsInRegisters(t *testing.T) {
	code := ""
	for n := 1; n <= 8; n++ {
		code += cell(n-1, 1)
		wantNeeds(t, "cells in registers", program(function(8, code)), n, ended(0))
		wantNeeds(t, "one register again", program(function(8, code+cell(n-1, 1))), n+1, ended(0))
		wantNeeds(t, "one register, let go", program(function(8, code+num(n-1, 0)+cell(n-1, 1))), n, ended(0))
	}
	wantNeeds(t, "function cells", program(function(4, caught(2, 0, 0)+caught(3, 0, 0)+caught(3, 0, 2)+caught(3, 0, 3))), 3, ended(0))
}

func TestAllCellsThatMayBe(t *testing.T) {
	// Each new cell has the one ahead of it in its slot: a chain without end.
	chain := program(function(4, cell(2, 1)+put(2, 0, 3)+move(3, 2)+num(2, 0)+emit(0)+jump(0)))
	for _, cells := range []int{1, 2, 3, 100, 199, 200} {
		m := load(t, chain, config(cells, 6))
		want := slices.Repeat([]api.Event{emitted(0)}, cells)
		if got := all(m, 500); !slices.Equal(got, append(want, memory)) {
			t.Errorf("P9: a chain in %d cells: %d events", cells, len(got))
		}
		wantState(t, m, api.Spent)
	}
}

// The same chain of function cells, each of which has caught the one ahead of it.
func TestChainOfFunctionCells(t *testing.T) {
	chain := program(function(4, caught(3, 0, 3)+emit(0)+jump(0)))
	for _, cells := range []int{1, 2, 200} {
		m := load(t, chain, config(cells, 3))
		want := slices.Repeat([]api.Event{emitted(0)}, cells)
		if got := all(m, 500); !slices.Equal(got, append(want, memory)) {
			t.Errorf("P9: a chain of function cells in %d: %d events", cells, len(got))
		}
	}
}

// Cells that reach one another, and that nobody reaches, are freed.
func TestRings(t *testing.T) {
	ring := cell(2, 1) + cell(3, 1) + put(2, 0, 3) + put(3, 0, 2) + num(2, 0) + num(3, 0) + emit(0)
	m := load(t, program(function(4, ring+jump(0))), config(2, 50))
	if got := all(m, 300); slices.Contains(got, memory) || len(got) < 1000 {
		t.Errorf("P9: rings of cells: %d events", len(got))
	}
	wantState(t, m, api.Running, 1)
}

// While a function runs, the registers of those that called it keep their cells; when it is back, its own do not.
func TestCellsOfCalls(t *testing.T) {
	inner := function(3, cell(2, 0)+emit(0))
	wantNeeds(t, "the caller's registers", program(function(5, cell(3, 0)+caught(2, 1, 0)+call(4, 2, 0)), inner), 3, emitted(0), ended(0))
	wantNeeds(t, "a function that is back", program(function(5, caught(2, 1, 0)+call(4, 2, 0)+call(4, 2, 0)+call(4, 2, 0)), inner), 2, emitted(0), emitted(0), emitted(0), ended(0))
	wantNeeds(t, "what it is called with", program(function(5, cell(3, 0)+caught(2, 1, 0)+call(3, 2, 3)), function(3, num(0, 0)+cell(2, 0))), 3, ended(0))
}

// a of a Call that is not back keeps its cell, though the Call's answer will take its place.
func TestRegisterOfACallThatIsNotBack(t *testing.T) {
	inner := function(3, cell(2, 0)+num(2, 0)+giveBack(2))
	kept := caught(2, 1, 0) + cell(3, 0) + call(3, 2, 0) + cell(4, 0)
	wantNeeds(t, "a was a cell", program(function(5, kept), inner), 3, ended(0))
	gone := caught(2, 1, 0) + cell(3, 0) + num(3, 0) + call(3, 2, 0) + cell(4, 0)
	wantNeeds(t, "a was a number", program(function(5, gone), inner), 2, ended(0))
	// When the Call is back, the cell is not reached any more.
	back := caught(2, 1, 0) + cell(3, 0) + call(3, 2, 0) + num(2, 0) + cell(2, 0) + cell(4, 0) + cell(5, 0)
	wantNeeds(t, "a is a number again", program(function(6, back), inner), 3, ended(0))
}

// What is in a cell is there yet when others were collected round it.
func TestWhatIsKeptIsNotChanged(t *testing.T) {
	main := num(2, 42) + cell(3, 2) + put(3, 0, 2) + caught(4, 1, 3) + num(3, 0) + strings.Repeat(cell(5, 8)+num(5, 0), 20) + call(6, 4, 0) + get(2, 6, 0) + emit(2) + num(7, 1) + get(2, 6, 7) + giveBack(2)
	wantNeeds(t, "caught", program(function(8, main), function(2, giveBack(1))), 3, emitted(42), ended(0))
}

// A new cell begins with the number 0 in its slots, whatever lay at its place.
func TestNewCellsBeginAnew(t *testing.T) {
	code := num(3, 7) + num(4, 77) + cell(2, 8) + get(5, 2, 3) + emit(5) + put(2, 3, 4) + put(2, 0, 4) + num(2, 0) + jump(2)
	m := load(t, program(function(6, code)), config(1, 50))
	got := all(m, 50)
	if len(got) < 300 || !slices.Equal(got, slices.Repeat([]api.Event{emitted(0)}, len(got))) {
		t.Errorf("P4: slots of new cells: %v", got)
	}
}

// With just as many cells as can be reached, a cell is there for each new one, a hundred times over.
func TestFullAndLetGo(t *testing.T) {
	for cells := 1; cells <= 6; cells++ {
		code := ""
		for r := range cells {
			code += cell(r+1, r)
		}
		for r := range cells {
			code += num(r+1, 0)
		}
		m := load(t, program(function(8, code+emit(0)+jump(0))), config(cells, 2*cells+2))
		want := slices.Repeat([]api.Event{emitted(0)}, 100)
		if got := all(m, 100); !slices.Equal(got, want) {
			t.Errorf("P9: %d cells, all let go: %v", cells, got)
		}
	}
}

func TestSpentMachines(t *testing.T) {
	m := load(t, program(function(2, emit(0)+cell(1, 0)+emit(0)+cell(1, 0)+emit(0)+giveBack(0))), config(1, 50))
	wantTurn(t, m, 3, emitted(0), emitted(0), memory)
	for i := range int64(5) {
		wantState(t, m, api.Spent)
		if m.Clock() != 3+4*i {
			t.Errorf("P10: the time of a spent machine is %d, want %d", m.Clock(), 3+4*i)
		}
		if got := m.Turn(4, []api.Input{{Socket: 0, Byte: 1}, {Socket: -1, Byte: 1}}); len(got) != 0 {
			t.Errorf("P4: a spent machine tells %v", got)
		}
	}
	m.Turn(-1<<63, nil)
	m.Turn(1<<63-1, nil)
	m.Turn(1, nil)
	if m.Clock() != 1<<63-1 {
		t.Errorf("P4: the time of a spent machine is %d", m.Clock())
	}
	// Memory at the last instruction of the quantum: the task does not go back to the queue.
	m = load(t, program(function(2, cell(1, 0)+cell(1, 0))), config(1, 2))
	wantTurn(t, m, 0, memory)
	wantState(t, m, api.Spent)
	// Memory in a Func, and within a call.
	m = load(t, program(function(2, caught(1, 1, 0)+call(0, 1, 1)), function(2, emit(1)+caught(1, 1, 0))), config(1, 50))
	wantTurn(t, m, 0, emitted(0), memory)
	wantState(t, m, api.Spent)
}

// builds makes a list of 30 cells, and beside it, one at a time, cells that nobody keeps; then it tells the list. So it needs 31.
var builds = program(function(8, num(2, 30)+num(5, 1)+unless(2, 10)+of(api.Sub, 2, 2, 5)+cell(4, 2)+put(4, 7, 3)+put(4, 5, 2)+move(3, 4)+cell(4, 8)+jump(2)+num(4, 0)+unless(3, 17)+get(6, 3, 5)+emit(6)+get(3, 3, 7)+cell(6, 1)+jump(11)+now(6)+giveBack(4)))

// What tasks do hangs neither on Work nor, up to Memory, on Cells.
func TestWorkAndCellsAreNotSeen(t *testing.T) {
	var want []api.Event
	for i := range 30 {
		want = append(want, emitted(int64(i)))
	}
	want = append(want, ended(0))
	for _, quantum := range []int{1, 2, 5, 17, 50} {
		for _, work := range []int{1, 2, 13, 50} {
			for cells := 1; cells <= 40; cells++ {
				m := load(t, builds, api.Config{Cells: cells, Quantum: quantum, Work: work, Tasks: 1})
				if cells < 31 {
					wantSpent(t, "P8", m, want)
				} else if got := all(m, 600); !slices.Equal(got, want) {
					t.Errorf("P8: quantum %d, work %d, cells %d: %v", quantum, work, cells, got)
				}
			}
		}
	}
}
