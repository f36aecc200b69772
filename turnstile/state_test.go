package turnstile_test

import (
	"testing"

	"turnstile/api"
)

// How a machine stands when its first task has started others and then does something itself, all have run, and no tick has gone.
func TestStates(t *testing.T) {
	const sleeper, reader, awaiter, spinner, ender = 1, 2, 3, 4, 5
	functions := []string{
		function(3, num(2, 1)+sleep(2)),
		function(2, read(0, 0)),
		function(3, num(2, 1)+await(2, 2)),
		function(2, yield+jump(0)),
		function(2, giveBack(0)),
	}
	const sleeps, reads, awaits, ends = "sleeps", "reads", "awaits", "ends"
	codes := map[string]string{sleeps: num(4, 1) + sleep(4), reads: read(4, 4), awaits: await(4, 3), ends: giveBack(0)}
	for _, c := range []struct {
		starts []int
		then   string
		state  int
		queue  []int
	}{
		{nil, ends, api.Finished, nil},
		{nil, sleeps, api.Waiting, nil},
		{nil, reads, api.Waiting, nil},
		{[]int{ender}, ends, api.Finished, nil},
		{[]int{ender}, sleeps, api.Waiting, nil},
		{[]int{ender}, awaits, api.Finished, nil},
		{[]int{spinner}, ends, api.Running, []int{2}},
		{[]int{spinner}, sleeps, api.Running, []int{2}},
		{[]int{spinner}, awaits, api.Running, []int{2}},
		{[]int{sleeper}, ends, api.Waiting, nil},
		{[]int{sleeper}, awaits, api.Waiting, nil},
		{[]int{reader}, ends, api.Waiting, nil},
		{[]int{reader}, awaits, api.Waiting, nil},
		{[]int{reader, sleeper}, ends, api.Waiting, nil},
		{[]int{awaiter}, awaits, api.Stuck, nil},
		{[]int{awaiter}, reads, api.Waiting, nil},
		{[]int{awaiter}, sleeps, api.Waiting, nil},
		{[]int{awaiter}, ends, api.Finished, nil},
		{[]int{awaiter, awaiter, awaiter}, awaits, api.Stuck, nil},
		{[]int{reader, awaiter}, awaits, api.Waiting, nil},
		{[]int{sleeper, awaiter}, awaits, api.Waiting, nil},
		{[]int{spinner, awaiter}, awaits, api.Running, []int{2}},
		{[]int{spinner, reader, sleeper, awaiter}, awaits, api.Running, []int{2}},
	} {
		m := load(t, program(append([]string{function(5, starts(c.starts...)+codes[c.then])}, functions...)...), wide)
		wantState(t, m, api.Running, 1)
		for range 20 {
			m.Turn(0, nil)
		}
		wantState(t, m, c.state, c.queue...)
		if t.Failed() {
			t.Fatalf("P10: the first task starts %v and then %s", c.starts, c.then)
		}
	}
}

// A machine that waits goes on, and comes to an end, with ticks and bytes.
func TestStatesOneBehindTheOther(t *testing.T) {
	m := load(t, program(function(4, num(2, 2)+sleep(2)+yield+read(3, 0)+starts(1)+await(3, 3)), function(4, num(2, 1)+await(2, 2))), wide)
	wantState(t, m, api.Running, 1)
	m.Turn(0, nil)
	wantState(t, m, api.Waiting)
	m.Turn(1, nil)
	wantState(t, m, api.Waiting)
	m.Turn(1, nil)
	wantState(t, m, api.Running, 1)
	m.Turn(1, nil)
	wantState(t, m, api.Waiting)
	m.Turn(0, to(0, 1))
	wantState(t, m, api.Running, 2)
	m.Turn(0, nil)
	wantState(t, m, api.Stuck)
	m.Turn(9, to(0, 1))
	wantState(t, m, api.Stuck)
}

// Spent goes ahead of all other states.
func TestSpentIsAheadOfOtherStates(t *testing.T) {
	full := yield + cell(3, 0) + cell(3, 0) + cell(3, 0)
	for _, other := range []string{yield + jump(0), num(2, 1) + sleep(2), read(2, 2), num(2, 1) + await(2, 2), giveBack(0)} {
		m := load(t, program(function(4, starts(1)+full), function(3, other)), config(2, 50))
		m.Turn(0, nil)
		m.Turn(0, nil)
		m.Turn(0, nil)
		if m.State() != api.Spent {
			t.Errorf("P10: State is %d, want %d", m.State(), api.Spent)
		}
		wantTurn(t, m, 9)
	}
}
