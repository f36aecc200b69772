package turnstile_test

import (
	"math/rand"
	"slices"
	"testing"

	"turnstile/api"
	"turnstile/turnstile"
)

// starts is code that spawns a task for each of these functions. The number of the last is left in register 3; the number 0 is what they are called with and what is caught.
func starts(functions ...int) string {
	code := ""
	for _, f := range functions {
		code += caught(2, f, 0) + spawn(3, 2, 0)
	}
	return code
}

// spins does nothing, turn by turn, without end.
var spins = function(2, yield+jump(0))

// counts tells, at each of its turns, a number: what it is called with, and then one more each time.
var counts = function(3, emit(0)+num(2, 1)+of(api.Add, 0, 0, 2)+yield+jump(0))

func TestSpawn(t *testing.T) {
	main := num(3, 10) + num(4, 20) + caught(2, 1, 4) + spawn(5, 2, 3) + emit(5) + num(3, 11) + spawn(6, 2, 3) + emit(6) + emit(5) + emit(3)
	m := load(t, program(function(7, main), function(3, emit(0)+emit(1)+emit(2)+num(0, 5)+num(1, 6)+num(2, 7)+yield+emit(0)+giveBack(1))), wide)
	wantTurn(t, m, 0, emitted(2), emitted(3), emitted(2), emitted(11), ended(0))
	wantState(t, m, api.Running, 2, 3)
	wantTurn(t, m, 0, by(2, emitted(10)), by(2, emitted(20)), by(2, emitted(0)))
	wantState(t, m, api.Running, 3, 2)
	wantTurn(t, m, 0, by(3, emitted(11)), by(3, emitted(20)), by(3, emitted(0)))
	wantState(t, m, api.Running, 2, 3)
	wantTurn(t, m, 0, by(2, emitted(5)), by(2, ended(6)))
	wantTurn(t, m, 0, by(3, emitted(5)), by(3, ended(6)))
	wantState(t, m, api.Finished)
}

// b and c are looked at ahead of the number that a gets.
func TestSpawnIntoItsOwnRegisters(t *testing.T) {
	takes := function(3, num(2, 0)+get(2, 0, 2)+giveBack(2))
	for _, c := range []struct{ what, code string }{
		{"into b", cell(4, 1) + spawn(2, 2, 4) + giveBack(2)},
		{"into c", cell(4, 1) + spawn(4, 2, 4) + giveBack(4)},
	} {
		m := load(t, program(function(5, caught(2, 1, 0)+c.code), takes), wide)
		wantTurn(t, m, 0, ended(2))
		wantTurn(t, m, 0, by(2, ended(0)))
	}
	m := load(t, program(function(3, caught(2, 1, 0)+spawn(2, 2, 2)+giveBack(2)), function(3, call(2, 0, 2)+giveBack(2))), wide)
	wantTurn(t, m, 0, ended(2))
	wantTurn(t, m, 0, by(2, failed(api.BadFunction)))
}

// The new task goes behind those that are in the queue, and the one that spawned it, if it yields, behind that.
func TestSpawnedGoToTheEnd(t *testing.T) {
	m := load(t, program(function(4, starts(1, 1)+yield+starts(1)+yield+starts(1)+jump(10)), spins), wide)
	wantTurn(t, m, 0)
	wantState(t, m, api.Running, 2, 3, 1)
	wantTurn(t, m, 0)
	wantTurn(t, m, 0)
	wantState(t, m, api.Running, 1, 2, 3)
	wantTurn(t, m, 0)
	wantState(t, m, api.Running, 2, 3, 4, 1)
	// The quantum ends behind the spawning: the new task is ahead.
	m = load(t, program(function(4, starts(1)+jump(2)), spins), config(9, 2))
	wantTurn(t, m, 0)
	wantState(t, m, api.Running, 2, 1)
}

// Tasks are numbered on, whatever became of those ahead.
func TestTasksAreNumberedOn(t *testing.T) {
	main := starts(1) + emit(3) + yield + starts(2) + emit(3) + yield + starts(3) + emit(3) + cancel(3) + starts(1) + emit(3)
	m := load(t, program(function(4, main), function(2, giveBack(0)), function(2, get(0, 0, 0)), spins), wide)
	wantTurn(t, m, 0, emitted(2))
	wantTurn(t, m, 0, by(2, ended(0)))
	wantTurn(t, m, 0, emitted(3))
	wantTurn(t, m, 0, by(3, failed(api.BadCell)))
	wantTurn(t, m, 0, emitted(4), cancelled(4), emitted(5), ended(0))
	wantTurn(t, m, 0, by(5, ended(0)))
	wantState(t, m, api.Finished)
}

// As many tasks may live as the configuration says, and not one more.
func TestAsManyTasksAsMay(t *testing.T) {
	for n := 1; n <= 16; n++ {
		c := wide
		c.Tasks = n
		fits := starts(slices.Repeat([]int{1}, n-1)...)
		queue := []int{}
		for task := 2; task <= n; task++ {
			queue = append(queue, task)
		}
		m := load(t, program(function(4, fits+emit(3)+yield), spins), c)
		wantTurn(t, m, 0, emitted(int64(len(queue)+min(len(queue), 1))))
		wantState(t, m, api.Running, append(queue, 1)...)
		m = load(t, program(function(4, fits+starts(1)+emit(3)), spins), c)
		wantTurn(t, m, 0, failed(api.TooMany))
		if n > 1 {
			wantState(t, m, api.Running, queue...)
		} else {
			wantState(t, m, api.Finished)
		}
	}
}

// A Spawn that fails does nothing: the number is left for the next one.
func TestTooManyUsesNoNumber(t *testing.T) {
	c := wide
	c.Tasks = 2
	m := load(t, program(function(4, starts(1, 1)), function(4, yield+starts(2)+giveBack(3)), spins), c)
	wantTurn(t, m, 0, failed(api.TooMany))
	wantTurn(t, m, 0)
	wantTurn(t, m, 0, by(2, ended(3)))
	wantState(t, m, api.Running, 3)
}

// A task that has ended, failed or was cancelled makes room for another.
func TestRoomForAnotherTask(t *testing.T) {
	c := wide
	c.Tasks = 2
	for _, f := range []struct {
		code string
		last api.Event
	}{{giveBack(0), by(2, ended(0))}, {emit(0), by(2, ended(0))}, {read(0, 0) + giveBack(0), api.Event{}}, {get(0, 0, 0), by(2, failed(api.BadCell))}, {num(1, 2) + cancel(1), cancelled(2)}} {
		m := load(t, program(function(4, starts(1)+yield+starts(1)+giveBack(3)), function(2, f.code)), c)
		wantTurn(t, m, 0)
		got := m.Turn(0, nil)
		if f.last == (api.Event{}) {
			wantTurn(t, m, 0, failed(api.TooMany))
		} else {
			if len(got) == 0 || got[len(got)-1] != f.last {
				t.Errorf("P4: the second task tells %v, want %v", got, f.last)
			}
			wantTurn(t, m, 0, ended(3))
		}
	}
	m := load(t, program(function(4, starts(1)+cancel(3)+starts(1)+cancel(3)+starts(1)+giveBack(3)), spins), c)
	wantTurn(t, m, 0, cancelled(2), cancelled(3), ended(4))
}

func TestSpawnOfNoFunction(t *testing.T) {
	for _, b := range []int{zero, one, slotted, bare} {
		wantFailure(t, "Spawn of no function cell", spawn(7, b, zero), api.BadFunction)
		// It is looked at ahead of how many live.
		m := load(t, program(function(8, things+spawn(7, b, zero))), api.Config{Cells: 9, Quantum: 50, Work: 1, Tasks: 1})
		wantTurn(t, m, 0, failed(api.BadFunction))
		m = load(t, program(function(8, things+spawn(7, callable, zero))), api.Config{Cells: 9, Quantum: 50, Work: 1, Tasks: 1})
		wantTurn(t, m, 0, failed(api.TooMany))
	}
}

// How deep the functions are that run in a task does not count for the one that it spawns.
func TestSpawnFromTheDeepest(t *testing.T) {
	down := num(3, 1) + unless(0, 5) + of(api.Sub, 0, 0, 3) + get(4, 1, 2) + call(5, 4, 0) + caught(4, 2, 0) + spawn(5, 4, 0) + giveBack(5)
	m := load(t, program(function(6, cell(2, 1)+caught(3, 1, 2)+put(2, 0, 3)+num(4, 18)+call(5, 3, 4)), function(6, down), spins), wide)
	got := all(m, 3)
	if len(got) != 0 || len(m.Queue()) < 2 {
		t.Errorf("P4: a Spawn in the 20th function: %v, queue %v", got, m.Queue())
	}
}

// Each task has functions of its own: one fails too deep, the other does not.
func TestEachTaskHasItsOwnDepth(t *testing.T) {
	m := load(t, program(function(4, starts(1, 1)), function(3, caught(2, 1, 0)+call(2, 2, 0))), config(200, 6))
	if got, want := all(m, 20), tells(ended(0), by(2, failed(api.TooDeep)), by(3, failed(api.TooDeep))); !slices.Equal(got, want) {
		t.Errorf("P4: two tasks, each 20 deep: %v, want %v", got, want)
	}
}

// Tasks that yield, or whose quantum ends, take turns one behind the other.
func TestTasksTakeTurns(t *testing.T) {
	for n := 1; n <= 15; n++ {
		m := load(t, program(function(4, starts(slices.Repeat([]int{1}, n)...)), counts), wide)
		wantTurn(t, m, 0, ended(0))
		for round := range int64(5) {
			for task := 2; task <= n+1; task++ {
				wantTurn(t, m, 0, by(task, emitted(round)))
			}
		}
	}
	m := load(t, program(function(4, starts(1, 1, 1)), function(2, emit(0)+jump(0))), config(9, 6))
	wantTurn(t, m, 0)
	wantState(t, m, api.Running, 2, 3, 4, 1)
	for round := range 3 {
		for task := 2; task <= 4; task++ {
			wantTurn(t, m, 0, slices.Repeat(tells(by(task, emitted(0))), 3)...)
		}
		if round == 0 {
			wantTurn(t, m, 0, ended(0))
		}
	}
}

// wantInTurn looks at turns from outside: whoever is first in the queue runs, and those behind it move up, but for those that are cancelled.
func wantInTurn(t *testing.T, text string, m *turnstile.Machine, in []api.Input) {
	t.Helper()
	before := m.Queue()
	events := m.Turn(1, in)
	if len(before) == 0 || m.State() == api.Spent {
		return
	}
	behind := slices.Clone(before[1:])
	for _, e := range events {
		if e.Kind == api.Cancelled {
			behind = slices.DeleteFunc(behind, func(task int) bool { return task == e.Task })
		} else if e.Task != before[0] {
			t.Fatalf("P5: %x: %v is told, though the queue was %v", text, e, before)
		}
	}
	if after := m.Queue(); len(after) < len(behind) || !slices.Equal(after[:len(behind)], behind) {
		t.Fatalf("P5: %x: the queue %v became %v, with %v", text, before, after, events)
	}
}

func TestAnyProgramTakesTurns(t *testing.T) {
	random := rand.New(rand.NewSource(6))
	for range 1000 {
		w := writer{random, 2 + random.Intn(3)}
		text := w.program()
		m := load(t, text, anyConfig(random))
		for range 50 {
			wantInTurn(t, text, m, w.input())
		}
	}
}

// One that is cancelled ahead lets those behind it run one turn sooner.
func TestCancelledAheadInTheQueue(t *testing.T) {
	for _, gone := range [][]int{nil, {3}, {4}, {7}, {3, 4}, {4, 6}, {3, 4, 5, 6, 7}} {
		cancels := now(4)
		var want []api.Event
		for _, task := range gone {
			cancels += num(4, task) + cancel(4)
			want = append(want, cancelled(task))
		}
		m := load(t, program(function(4, starts(1, 2, 2, 2, 2, 2)), function(5, cancels), counts), wide)
		wantTurn(t, m, 0, ended(0))
		wantState(t, m, api.Running, 2, 3, 4, 5, 6, 7)
		wantTurn(t, m, 0, append(want, by(2, ended(0)))...)
		for round := range int64(2) {
			for task := 3; task <= 7; task++ {
				if !slices.Contains(gone, task) {
					wantTurn(t, m, 0, by(task, emitted(round)))
				}
			}
		}
	}
}
