package turnstile_test

import (
	"slices"
	"testing"

	"turnstile/api"
)

// A task that cancels itself runs no further, not even the functions that called the one that is running.
func TestCancelItself(t *testing.T) {
	m := load(t, program(function(3, num(2, 1)+emit(2)+cancel(2)+emit(2))), wide)
	wantTurn(t, m, 0, emitted(1), cancelled(1))
	wantState(t, m, api.Finished)
	wantTurn(t, m, 5)
	m = load(t, program(function(4, caught(2, 1, 0)+call(3, 2, 0)+emit(3)), function(3, num(2, 1)+cancel(2)+giveBack(2))), wide)
	wantTurn(t, m, 0, cancelled(1))
	wantState(t, m, api.Finished)
	// At the last instruction of the quantum, too: it does not go back to the queue.
	m = load(t, program(function(3, num(2, 1)+cancel(2)+emit(2))), config(1, 2))
	wantTurn(t, m, 0, cancelled(1))
	wantState(t, m, api.Finished)
}

// ways are functions of a task, and where that is when it has run them.
var ways = []struct{ what, code string }{
	{"in the queue", yield + emit(0)},
	{"asleep", num(2, 3) + sleep(2) + emit(0)},
	{"asleep for no time", sleep(2) + emit(0)},
	{"reading", read(2, 2) + emit(0)},
	{"awaiting", num(2, 1) + await(2, 2) + emit(0)},
	{"awaiting within a call", caught(2, 2, 0) + call(2, 2, 2) + emit(0)},
}

// A task that is cancelled runs no instruction any more, wherever it was: neither bytes nor ticks nor outcomes wake it.
func TestCancelWhereverItIs(t *testing.T) {
	awaits := function(3, num(2, 1)+await(2, 2)+emit(2))
	for _, c := range ways {
		m := load(t, program(function(4, starts(1)+yield+cancel(3)+cancel(3)+emit(3)+yield+giveBack(3)), function(3, c.code), awaits), wide)
		wantTurn(t, m, 0)
		wantTurn(t, m, 0)
		if got, want := m.Turn(0, nil), tells(cancelled(2), emitted(2)); !slices.Equal(got, want) {
			t.Errorf("P7: cancelled while %s: %v, want %v", c.what, got, want)
		}
		wantState(t, m, api.Running, 1)
		if got, want := m.Turn(9, []api.Input{{Socket: 0, Byte: 7}}), tells(ended(2)); !slices.Equal(got, want) {
			t.Errorf("P7: behind one cancelled while %s: %v, want %v", c.what, got, want)
		}
		wantState(t, m, api.Finished)
		wantTurn(t, m, 9)
	}
}

// Who was never in turn runs nothing at all.
func TestCancelBeforeItsFirstTurn(t *testing.T) {
	m := load(t, program(function(4, starts(1)+cancel(3)+await(2, 3)+giveBack(2)), function(2, emit(0))), wide)
	wantTurn(t, m, 0, cancelled(2), ended(-100))
	wantTurn(t, m, 0)
	wantState(t, m, api.Finished)
}

// Those that await a task get that it was cancelled, in the order in which they began to, wherever it was.
func TestAwaitersOfOneCancelled(t *testing.T) {
	asks := function(3, num(2, 2)+await(2, 2)+giveBack(2))
	for _, c := range ways {
		m := load(t, program(function(4, starts(1, 3, 3, 3)+yield+num(3, 2)+cancel(3)+yield+giveBack(3)), function(3, c.code), function(3, num(2, 1)+await(2, 2)), asks), wide)
		for range 5 {
			wantTurn(t, m, 0)
		}
		if got := m.Turn(0, nil); !slices.Equal(got, tells(cancelled(2))) {
			t.Errorf("P7: cancelled while %s: %v", c.what, got)
		}
		wantState(t, m, api.Running, 3, 4, 5, 1)
		for task := 3; task <= 5; task++ {
			wantTurn(t, m, 0, by(task, ended(-100)))
		}
		wantTurn(t, m, 0, ended(2))
	}
}

// A task that lives no more is not cancelled: there is no event, and its outcome stays.
func TestCancelOneThatLivesNoMore(t *testing.T) {
	for _, c := range tries {
		m := load(t, program(function(5, starts(1)+yield+cancel(3)+cancel(3)+emit(3)+await(4, 3)+cancel(3)+giveBack(4)), function(3, c.code)), pair)
		wantTurn(t, m, 0)
		wantTurn(t, m, 0, by(2, c.last))
		if got, want := m.Turn(0, nil), tells(emitted(2), ended(c.outcome)); !slices.Equal(got, want) {
			t.Errorf("P7: cancelled when it had %s: %v, want %v", c.what, got, want)
		}
	}
}

// Who waits behind a task that is cancelled moves up: at a socket, among those that await, among those that sleep.
func TestOthersMoveUp(t *testing.T) {
	reader := function(3, read(2, 0)+giveBack(2))
	m := load(t, program(function(5, starts(1, 1, 1)+yield+num(4, 2)+cancel(4)+num(4, 3)+cancel(4)), reader), wide)
	for range 4 {
		m.Turn(0, nil)
	}
	wantTurn(t, m, 0, cancelled(2), cancelled(3), ended(0))
	wantState(t, m, api.Waiting)
	if got := m.Turn(0, []api.Input{{Socket: 0, Byte: 8}}); !slices.Equal(got, tells(by(4, ended(8)))) {
		t.Errorf("P7: the byte of those that were cancelled: %v", got)
	}
	// The last reader was cancelled: the byte waits for one that comes later.
	m = load(t, program(function(5, starts(1)+yield+cancel(3)+yield+starts(1)), reader), wide)
	m.Turn(0, nil)
	m.Turn(0, nil)
	wantTurn(t, m, 0, cancelled(2))
	if got := m.Turn(0, []api.Input{{Socket: 0, Byte: 8}}); !slices.Equal(got, tells(ended(0))) {
		t.Errorf("P7: a byte that nobody waits for: %v", got)
	}
	wantTurn(t, m, 0, by(3, ended(8)))
	sleeper := function(4, num(2, 2)+sleep(2)+giveBack(2))
	m = load(t, program(function(5, starts(1, 1, 1)+yield+num(4, 3)+cancel(4)), sleeper), wide)
	for range 4 {
		m.Turn(0, nil)
	}
	wantTurn(t, m, 0, cancelled(3), ended(0))
	wantTurn(t, m, 2, by(2, ended(2)))
	wantState(t, m, api.Running, 4)
}

// Of those that await one task, one is cancelled: the others go on in their order.
func TestCancelOneOfThoseThatAwait(t *testing.T) {
	asks := function(3, num(2, 2)+await(2, 2)+giveBack(2))
	for gone := 3; gone <= 5; gone++ {
		m := load(t, program(function(5, starts(1, 2, 2, 2)+yield+num(4, gone)+cancel(4)), function(3, sleep(2)+num(2, 1)+sleep(2)), asks), wide)
		for range 5 {
			m.Turn(0, nil)
		}
		wantTurn(t, m, 0, cancelled(gone), ended(0))
		wantTurn(t, m, 0)
		wantState(t, m, api.Waiting)
		wantTurn(t, m, 1, by(2, ended(0)))
		for task := 3; task <= 5; task++ {
			if task != gone {
				wantTurn(t, m, 0, by(task, ended(0)))
			}
		}
		wantState(t, m, api.Finished)
	}
}

// A task cancels the one that cancels others: what it would have done later is not done.
func TestCancelTheCanceller(t *testing.T) {
	m := load(t, program(function(5, starts(1, 2)+yield+num(4, 2)+cancel(4)+yield+yield), function(3, yield+num(2, 1)+cancel(2)), spins), wide)
	m.Turn(0, nil)
	m.Turn(0, nil)
	m.Turn(0, nil)
	wantTurn(t, m, 0, cancelled(2))
	wantState(t, m, api.Running, 3, 1)
}
