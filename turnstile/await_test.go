package turnstile_test

import (
	"slices"
	"testing"

	"turnstile/api"
)

func TestExampleOfTwoTasks(t *testing.T) {
	m := load(t, program(function(4, starts(1, 2)+await(3, 3)), spins, function(2, giveBack(0))), wide)
	wantTurn(t, m, 0)
	wantState(t, m, api.Running, 2, 3)
	wantTurn(t, m, 0)
	wantState(t, m, api.Running, 3, 2)
	wantTurn(t, m, 0, by(3, ended(0)))
	wantState(t, m, api.Running, 2, 1)
}

// tries are functions, the event with which a task ends that runs one, and the outcome.
var tries = []struct {
	what, code string
	last       api.Event
	outcome    int64
}{
	{"ended with a number", num(2, 7) + giveBack(2), ended(7), 7},
	{"ended with a number below 0", num(2, -32768) + giveBack(2), ended(-32768), -32768},
	{"ended with what a failure has", num(2, -6) + giveBack(2), ended(-6), -6},
	{"ended without Return", num(2, 7), ended(0), 0},
	{"BadNumber", cell(2, 0) + emit(2), failed(api.BadNumber), -1},
	{"BadCell", get(2, 2, 2), failed(api.BadCell), -2},
	{"BadIndex", cell(2, 0) + put(2, 0, 2), failed(api.BadIndex), -3},
	{"BadFunction", call(2, 2, 2), failed(api.BadFunction), -4},
	{"TooDeep", caught(2, 1, 0) + call(2, 2, 0), failed(api.TooDeep), -5},
	{"NoTask", cancel(2), failed(api.NoTask), -6},
	{"TooMany", caught(2, 1, 0) + spawn(2, 2, 0), failed(api.TooMany), -7},
	{"BadSocket", num(2, 4) + read(2, 2), failed(api.BadSocket), -8},
	{"cancelled by itself", num(2, 2) + cancel(2), cancelled(0), -100},
}

// pair is room for two tasks and for one task that goes too deep.
var pair = api.Config{Cells: 30, Quantum: 50, Work: 1, Tasks: 2}

// The outcome comes when the task that is awaited ends, however it does.
func TestAwaitOneThatLives(t *testing.T) {
	for _, c := range tries {
		m := load(t, program(function(5, starts(1)+await(4, 3)+emit(4)+emit(3)), function(3, c.code)), pair)
		wantTurn(t, m, 0)
		wantState(t, m, api.Running, 2)
		wantTurn(t, m, 0, by(2, c.last))
		wantState(t, m, api.Running, 1)
		if got, want := m.Turn(0, nil), tells(emitted(c.outcome), emitted(2), ended(0)); !slices.Equal(got, want) {
			t.Errorf("P4: %s: who awaits tells %v, want %v", c.what, got, want)
		}
	}
}

// The outcome stays: it can be asked for later, again and again, and the task runs on behind it.
func TestAwaitOneThatLivesNoMore(t *testing.T) {
	for _, c := range tries {
		m := load(t, program(function(5, starts(1)+yield+await(4, 3)+emit(4)+num(4, 0)+await(4, 3)+emit(4)+await(3, 3)+giveBack(3)), function(3, c.code)), pair)
		wantTurn(t, m, 0)
		wantTurn(t, m, 0, by(2, c.last))
		wantState(t, m, api.Running, 1)
		if got, want := m.Turn(0, nil), tells(emitted(c.outcome), emitted(c.outcome), ended(c.outcome)); !slices.Equal(got, want) {
			t.Errorf("P4: %s: who asks later tells %v, want %v", c.what, got, want)
		}
	}
}

// An outcome that is a cell is that cell.
func TestAwaitACell(t *testing.T) {
	gives := function(3, num(2, 5)+put(0, 1, 2)+giveBack(0))
	for _, wait := range []string{"", yield} {
		main := cell(4, 1) + caught(2, 1, 0) + spawn(3, 2, 4) + wait + await(5, 3) + of(api.Same, 6, 4, 5) + emit(6) + get(6, 5, 0) + emit(6)
		m := load(t, program(function(7, main), gives), wide)
		got := all(m, 3)
		if want := tells(by(2, ended(0)), emitted(1), emitted(5), ended(0)); !slices.Equal(got, want) {
			t.Errorf("P4: an outcome that is a cell: %v, want %v", got, want)
		}
	}
}

// strange is code that leaves a number in register 5 that no task has, where there are two.
var strange = []struct{ what, code string }{
	{"0", num(5, 0)}, {"-1", num(5, -1)}, {"-2", num(5, -2)}, {"one more than there are", num(5, 3)}, {"16", num(5, 16)}, {"256 and 2", num(5, 258)}, {"32767", num(5, 32767)}, {"-32768", num(5, -32768)},
	{"the greatest", greatest(move(5, 2))}, {"the least", greatest(move(5, 3))}, {"the least and 2", greatest(of(api.Add, 5, 4, 4) + of(api.Add, 5, 5, 3))},
	{"2 to the 32nd and 2", num(5, 1<<14) + of(api.Mul, 5, 5, 5) + num(4, 16) + of(api.Mul, 5, 5, 4) + num(4, 2) + of(api.Add, 5, 5, 4)},
}

func TestNoTask(t *testing.T) {
	for _, c := range strange {
		for what, code := range map[string]string{"Await": await(6, 5), "Cancel": cancel(5)} {
			for _, wait := range []string{"", yield} {
				m := load(t, program(function(7, starts(1)+wait+c.code+code+emit(5)), spins), wide)
				got := all(m, 3)
				if !slices.Equal(got, tells(failed(api.NoTask))) {
					t.Errorf("P4: %s of %s: %v, want NoTask", what, c.what, got)
				}
				wantState(t, m, api.Running, 2)
			}
		}
	}
	// The number of a task that is still to come is none.
	m := load(t, program(function(5, num(4, 3)+starts(1)+await(2, 4)), spins), wide)
	wantTurn(t, m, 0, failed(api.NoTask))
	m = load(t, program(function(5, num(4, 3)+starts(1, 1)+await(2, 4)), spins), wide)
	wantTurn(t, m, 0)
	wantState(t, m, api.Running, 2, 3)
}

func TestAwaitItself(t *testing.T) {
	m := load(t, program(function(3, num(2, 1)+await(2, 2)+emit(2))), wide)
	wantTurn(t, m, 0, failed(api.NoTask))
	wantState(t, m, api.Finished)
	m = load(t, program(function(5, starts(1)+await(4, 3)+giveBack(4)), function(3, num(2, 2)+await(2, 2)+emit(2))), wide)
	wantTurn(t, m, 0)
	wantTurn(t, m, 0, by(2, failed(api.NoTask)))
	wantTurn(t, m, 0, ended(-api.NoTask))
}

func TestBadNumberOfTasksAndSockets(t *testing.T) {
	for _, c := range []int{slotted, bare, callable} {
		wantFailure(t, "Await of a cell", await(7, c), api.BadNumber)
		wantFailure(t, "Cancel of a cell", cancel(c), api.BadNumber)
		wantFailure(t, "Sleep of a cell", sleep(c), api.BadNumber)
		wantFailure(t, "Read of a cell", read(7, c), api.BadNumber)
	}
}

// Those that await one task go on in the order in which they began to, behind those that are in the queue.
func TestSeveralAwaitOne(t *testing.T) {
	// A task yields as often as it is called with, and then awaits the task 2.
	late := function(4, num(2, 1)+unless(0, 5)+of(api.Sub, 0, 0, 2)+yield+jump(1)+num(3, 2)+await(3, 3)+giveBack(3))
	for _, c := range []struct {
		last api.Event
		code string
	}{{ended(9), num(2, 9) + giveBack(2)}, {failed(api.BadCell), get(2, 2, 2)}, {cancelled(0), num(2, 2) + cancel(2)}} {
		main := starts(1)
		for _, yields := range []int{3, 0, 2, 1, 3, 0} {
			main += caught(2, 2, 0) + num(3, yields) + spawn(3, 2, 3)
		}
		target := function(3, sleep(1)+num(2, 5)+sleep(2)+c.code)
		m := load(t, program(function(4, main+starts(3)), target, late, spins), wide)
		for range 30 {
			m.Turn(0, nil)
		}
		wantState(t, m, api.Running, 9)
		wantTurn(t, m, 5)
		wantTurn(t, m, 0, by(2, c.last))
		outcome := map[int]int64{api.Ended: 9, api.Failed: -api.BadCell, api.Cancelled: -100}[c.last.Kind]
		order := []int{4, 8, 6, 5, 3, 7}
		wantState(t, m, api.Running, append([]int{9}, order...)...)
		wantTurn(t, m, 0)
		for _, task := range order {
			wantTurn(t, m, 0, by(task, ended(outcome)))
		}
		wantState(t, m, api.Running, 9)
	}
}

// Each task of a chain awaits the one behind it: they end from the last on.
func TestChainOfAwaits(t *testing.T) {
	next := function(5, num(3, 12)+of(api.Less, 4, 0, 3)+unless(4, 10)+num(3, 1)+of(api.Add, 3, 0, 3)+caught(2, 1, 0)+spawn(4, 2, 3)+await(4, 4)+of(api.Add, 4, 4, 3)+giveBack(4)+giveBack(0))
	m := load(t, program(function(5, caught(2, 1, 0)+num(3, 2)+spawn(3, 2, 3)+await(4, 3)+giveBack(4)), next), wide)
	got := all(m, 30)
	n := int64(12)
	want := tells(by(12, ended(n)))
	for task := 11; task >= 2; task-- {
		n += int64(task) + 1
		want = append(want, by(task, ended(n)))
	}
	if want = append(want, ended(n)); !slices.Equal(got, want) {
		t.Errorf("P4: a chain of tasks that await: %v, want %v", got, want)
	}
	wantState(t, m, api.Finished)
}

// What is awaited comes to the function that asked, however deep it is.
func TestAwaitWithinACall(t *testing.T) {
	asks := function(4, num(2, 7)+await(3, 0)+emit(2)+giveBack(3))
	m := load(t, program(function(6, starts(1)+caught(2, 2, 0)+call(5, 2, 3)+emit(3)+giveBack(5)), function(2, yield+num(0, 42)+giveBack(0)), asks), wide)
	wantTurn(t, m, 0)
	wantTurn(t, m, 0)
	wantTurn(t, m, 0, by(2, ended(42)))
	wantTurn(t, m, 0, emitted(7), emitted(2), ended(42))
}

// A task that waits runs no further; what is left of its quantum is lost. With an outcome that is there it runs on.
func TestQuantumOfAwait(t *testing.T) {
	m := load(t, program(function(5, starts(1)+await(4, 3)+emit(4)+await(4, 3)+emit(4)+emit(4)), function(2, giveBack(0))), config(9, 3))
	wantTurn(t, m, 0)
	wantState(t, m, api.Running, 2)
	wantTurn(t, m, 0, by(2, ended(0)))
	wantTurn(t, m, 0, emitted(0), emitted(0))
	wantState(t, m, api.Running, 1)
	wantTurn(t, m, 0, emitted(0), ended(0))
}

// Tasks that await one another are stuck: nothing but the clock goes on.
func TestStuck(t *testing.T) {
	m := load(t, program(function(4, starts(1)+await(3, 3)+emit(3)), function(3, num(2, 1)+await(2, 2)+emit(2))), wide)
	wantTurn(t, m, 0)
	wantTurn(t, m, 0)
	for i := range int64(5) {
		wantState(t, m, api.Stuck)
		if got := m.Turn(1, []api.Input{{Socket: 0, Byte: 1}}); len(got) != 0 || m.Clock() != i+1 {
			t.Errorf("P4: tasks that await one another: %v, time %d", got, m.Clock())
		}
	}
}
