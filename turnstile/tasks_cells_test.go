package turnstile_test

import (
	"slices"
	"testing"

	"turnstile/api"
)

// The registers of each task that lives keep their cells, wherever it is; when it is cancelled they do not.
func TestCellsOfTasks(t *testing.T) {
	for _, c := range []struct{ what, code string }{
		{"in the queue", yield + jump(1)},
		{"asleep", num(1, 100) + sleep(1)},
		{"reading", num(1, 0) + read(1, 1)},
		{"awaiting", num(1, 1) + await(1, 1)},
	} {
		// 2 holds a cell, and 1 asks for two more beside its function cell.
		text := program(function(6, starts(1)+yield+cell(4, 0)+emit(3)+cell(5, 0)+giveBack(3)), function(3, cell(2, 0)+c.code))
		for cells, want := range map[int][]api.Event{2: {memory}, 3: {emitted(2), memory}, 4: {emitted(2), ended(2)}} {
			m := load(t, text, config(cells, 50))
			if got := all(m, 3); !slices.Equal(got, want) {
				t.Errorf("P9: a cell of a task %s, %d cells: %v, want %v", c.what, cells, got, want)
			}
		}
		gone := program(function(6, starts(1)+yield+cancel(3)+cell(4, 0)+emit(3)+cell(5, 0)+giveBack(3)), function(3, cell(2, 0)+c.code))
		for cells, want := range map[int][]api.Event{2: {cancelled(2), emitted(2), memory}, 3: {cancelled(2), emitted(2), ended(2)}} {
			m := load(t, gone, config(cells, 50))
			if got := all(m, 3); !slices.Equal(got, want) {
				t.Errorf("P9: a cell of a task that was cancelled %s, %d cells: %v, want %v", c.what, cells, got, want)
			}
		}
	}
}

// What a task is called with, and what its function cell has caught, is its own; the function cell is not.
func TestCellsOfASpawnedTask(t *testing.T) {
	// Nobody has the function cell any more when 2 asks for a cell.
	keeps := function(3, yield+cell(2, 0)+num(2, 9)+emit(2))
	lets := function(3, num(0, 0)+num(1, 0)+yield+cell(2, 0)+num(2, 9)+emit(2))
	main := function(5, cell(3, 0)+cell(4, 0)+caught(2, 1, 3)+spawn(2, 2, 4))
	wantNeeds(t, "kept by a spawned task", program(main, keeps), 3, ended(0), by(2, emitted(9)), by(2, ended(0)))
	wantNeeds(t, "let go by a spawned task", program(main, lets), 3, ended(0), by(2, emitted(9)), by(2, ended(0)))
	twice := function(3, num(2, 9)+yield+cell(2, 0)+cell(2, 0)+num(2, 9)+emit(2))
	wantNeeds(t, "kept, and two more", program(main, twice), 4, ended(0), by(2, emitted(9)), by(2, ended(0)))
}

// An outcome keeps its cell, and all that can be reached from it, though nobody asks for it any more.
func TestCellsOfOutcomes(t *testing.T) {
	gives := function(3, cell(0, 1)+cell(2, 0)+put(0, 1, 2)+giveBack(0))
	ended2, done := by(2, ended(0)), ended(0)
	wantNeeds(t, "a cell with another", program(function(6, starts(1)+await(3, 3)+num(2, 0)+num(3, 0)+cell(4, 0)+cell(5, 0)), gives), 4, ended2, done)
	wantNeeds(t, "asked for twice", program(function(6, starts(1)+await(4, 3)+num(2, 0)+await(5, 3)+cell(2, 0)), gives), 3, ended2, done)
	number := function(3, cell(0, 1)+cell(2, 0)+put(0, 1, 2)+num(0, 0)+giveBack(0))
	wantNeeds(t, "a number", program(function(6, starts(1)+await(3, 3)+num(2, 0)+num(3, 0)+cell(4, 0)+cell(5, 0)), number), 3, ended2, done)
	fails := function(3, cell(0, 1)+cell(2, 0)+get(0, 1, 1))
	wantNeeds(t, "a failure", program(function(6, starts(1)+await(3, 3)+num(2, 0)+num(3, 0)+cell(4, 0)+cell(5, 0)), fails), 3, by(2, failed(api.BadCell)), done)
}

// One and the same cell may be the outcome of many tasks: it is kept once.
func TestOneCellOfManyOutcomes(t *testing.T) {
	again := num(4, 1) + cell(3, 0) + caught(2, 1, 0) + spawn(5, 2, 3) + await(6, 5) + of(api.Same, 6, 6, 3) + of(api.Sub, 6, 6, 4) + unless(6, 3)
	m := load(t, program(function(7, again), function(2, giveBack(0))), config(2, 50))
	got := all(m, 500)
	if len(got) < 200 || slices.ContainsFunc(got, isMemory) {
		t.Errorf("P9: one cell of many outcomes: %d events", len(got))
	}
	for i, e := range got {
		if e != by(i+2, ended(0)) {
			t.Fatalf("P4: event %d is %v", i, e)
		}
	}
	// Another cell each time: they stay, till none is free.
	m = load(t, program(function(7, caught(2, 1, 0)+spawn(5, 2, 0)+await(6, 5)+num(6, 0)+jump(1)), function(2, cell(0, 0)+giveBack(0))), config(9, 50))
	got = all(m, 500)
	if len(got) != 9 || got[8] != by(10, memory) {
		t.Errorf("P9: a cell of each outcome: %v", got)
	}
}

// A task that lives no more leaves its cells to others, a hundred times over.
func TestTasksOneBehindTheOther(t *testing.T) {
	for _, end := range []string{giveBack(1), get(0, 0, 1), num(1, 0) + await(0, 1), call(0, 1, 1)} {
		full := function(5, num(1, 0)+cell(2, 0)+cell(3, 0)+cell(4, 0)+end)
		m := load(t, program(function(4, caught(2, 1, 0)+spawn(3, 2, 0)+await(3, 3)+emit(3)+jump(1)), full), config(4, 50))
		got := all(m, 300)
		if len(got) < 290 || slices.ContainsFunc(got, isMemory) {
			t.Errorf("P9: tasks one behind the other: %d events", len(got))
		}
	}
}

// Memory is of the task that is running; no task runs behind it, whoever is in the queue.
func TestMemoryOfAnotherTask(t *testing.T) {
	m := load(t, program(function(4, starts(1, 2, 2)+yield+jump(6)), function(4, cell(2, 0)+emit(1)+cell(3, 0)+emit(1)), counts), config(2, 50))
	wantTurn(t, m, 0)
	wantTurn(t, m, 0, by(2, emitted(0)), by(2, memory))
	wantState(t, m, api.Spent, 3, 4, 1)
	for range 5 {
		wantTurn(t, m, 1)
		wantState(t, m, api.Spent, 3, 4, 1)
	}
	if m.Clock() != 5 {
		t.Errorf("P10: the time is %d, want 5", m.Clock())
	}
}
