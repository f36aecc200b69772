package turnstile_test

import (
	"math"
	"math/rand"
	"slices"
	"testing"

	"turnstile/api"
)

// naps is a program whose first task spawns one for each of these numbers: it sleeps for so many ticks, and tells the time.
func naps(ticks ...int) string {
	main := caught(2, 1, 0)
	for _, n := range ticks {
		main += num(3, n) + spawn(4, 2, 3)
	}
	return program(function(5, main), function(3, sleep(0)+now(2)+emit(2)+giveBack(0)))
}

func TestSleep(t *testing.T) {
	m := load(t, naps(3), wide)
	wantTurn(t, m, 10, ended(0))
	wantTurn(t, m, 1)
	for range 3 {
		wantState(t, m, api.Waiting)
		wantTurn(t, m, 0)
	}
	wantTurn(t, m, 2)
	wantState(t, m, api.Waiting)
	wantTurn(t, m, 0)
	wantTurn(t, m, -9)
	wantTurn(t, m, 1, by(2, emitted(14)), by(2, ended(3)))
	wantState(t, m, api.Finished)
}

// Sleep of 0, or of a number below 0, ends at the next turn, with no tick at all.
func TestSleepForNoTime(t *testing.T) {
	for _, n := range []int{0, -1, -2, -32768} {
		m := load(t, naps(n), wide)
		wantTurn(t, m, 4, ended(0))
		wantTurn(t, m, 0)
		wantState(t, m, api.Waiting)
		wantTurn(t, m, 0, by(2, emitted(4)), by(2, ended(int64(n))))
	}
	m := load(t, program(function(8, greatest(sleep(3)+giveBack(4)))), wide)
	wantTurn(t, m, 0)
	wantTurn(t, m, -1, ended(1))
}

// A task that sleeps for no time goes behind those that are in the queue; but it is there only at the next turn.
func TestSleepGoesBehindTheQueue(t *testing.T) {
	m := load(t, program(function(4, starts(1, 1)+sleep(0)+emit(0)+giveBack(3)), spins), wide)
	wantTurn(t, m, 0)
	wantState(t, m, api.Running, 2, 3)
	wantTurn(t, m, 0)
	// 1 went to the queue ahead of 2, which has run since.
	wantState(t, m, api.Running, 3, 1, 2)
	wantTurn(t, m, 0)
	wantTurn(t, m, 0, emitted(0), ended(3))
}

// With more ticks at once, those go first whose time was first; those of one time in the order in which they fell asleep.
func TestSeveralSleep(t *testing.T) {
	for _, c := range []struct {
		ticks []int
		order []int
	}{
		{[]int{5, 5, 5, 5}, []int{2, 3, 4, 5}},
		{[]int{4, 3, 2, 1}, []int{5, 4, 3, 2}},
		{[]int{1, 2, 3, 4}, []int{2, 3, 4, 5}},
		{[]int{3, 1, 3, 1, 2, 3, 1}, []int{3, 5, 8, 6, 2, 4, 7}},
		{[]int{2, 9, 1, 9, 1, 8}, []int{4, 6, 2, 7, 3, 5}},
	} {
		m := load(t, naps(c.ticks...), config(1, 50))
		wantTurn(t, m, 0, ended(0))
		for range c.ticks {
			wantTurn(t, m, 0)
		}
		wantState(t, m, api.Waiting)
		wantTurn(t, m, 9, by(c.order[0], emitted(9)), by(c.order[0], ended(int64(c.ticks[c.order[0]-2]))))
		wantState(t, m, api.Running, c.order[1:]...)
	}
}

// Those that fell asleep at several times may have one time yet.
func TestSleepToOneTime(t *testing.T) {
	m := load(t, naps(3, 2, 1, 2, 3), wide)
	wantTurn(t, m, 0, ended(0))
	// 2 sleeps till 3, 3 till 3, 4 till 3, 5 till 4, 6 till 5.
	for _, ticks := range []int64{0, 1, 1, 0, 0} {
		wantTurn(t, m, ticks)
	}
	wantState(t, m, api.Waiting)
	wantTurn(t, m, 1, by(2, emitted(3)), by(2, ended(3)))
	wantState(t, m, api.Running, 3, 4)
	wantTurn(t, m, 7, by(3, emitted(10)), by(3, ended(2)))
	wantState(t, m, api.Running, 4, 5, 6)
}

// Bytes come ahead of the time: who reads is in the queue ahead of who sleeps.
func TestReadersAreAheadOfSleepers(t *testing.T) {
	m := load(t, program(function(4, starts(1, 2)), function(3, sleep(2)+num(2, 1)+sleep(2)+emit(0)), function(3, read(2, 2)+emit(2))), wide)
	for range 5 {
		m.Turn(0, nil)
	}
	wantState(t, m, api.Waiting)
	if got, want := m.Turn(1, []api.Input{{Socket: 0, Byte: 9}}), tells(by(3, emitted(9)), by(3, ended(0))); !slices.Equal(got, want) {
		t.Errorf("P4: a byte and a tick: %v, want %v", got, want)
	}
	wantState(t, m, api.Running, 2)
}

// No time is later than the greatest number: who would sleep beyond it wakes there.
func TestSleepToTheEndOfTime(t *testing.T) {
	for _, c := range []struct {
		code string
		from int64
	}{
		{num(2, 9), math.MaxInt64 - 4}, {num(2, 5), math.MaxInt64 - 4}, {num(2, 4), math.MaxInt64 - 4}, {num(2, 32767), math.MaxInt64 - 1}, {greatest(""), 0}, {greatest(""), 1}, {greatest(""), math.MaxInt64 - 4},
	} {
		m := load(t, program(function(5, c.code+sleep(2)+now(2)+giveBack(2))), wide)
		wantTurn(t, m, c.from)
		wantState(t, m, api.Waiting)
		wantTurn(t, m, math.MaxInt64-c.from-1)
		wantState(t, m, api.Waiting)
		wantTurn(t, m, 1, ended(math.MaxInt64))
	}
	// At the end of time each sleep ends at the next turn.
	for _, code := range []string{num(2, 0), num(2, 1), num(2, -1), greatest("")} {
		m := load(t, program(function(5, code+sleep(2)+now(2)+giveBack(2))), wide)
		wantTurn(t, m, math.MaxInt64)
		wantState(t, m, api.Waiting)
		wantTurn(t, m, 0, ended(math.MaxInt64))
	}
}

// All that would sleep beyond the end of time have one time: the order is that in which they fell asleep.
func TestSeveralSleepToTheEndOfTime(t *testing.T) {
	m := load(t, naps(32767, 9, 100, 3), wide)
	wantTurn(t, m, math.MaxInt64-6, ended(0))
	for range 4 {
		wantTurn(t, m, 1)
	}
	wantState(t, m, api.Waiting)
	// 2, 3 and 4 sleep till the end; 5 does, too, at just the greatest number, but fell asleep later.
	wantTurn(t, m, 9, by(2, emitted(math.MaxInt64)), by(2, ended(32767)))
	wantState(t, m, api.Running, 3, 4, 5)
}

// Sleep at the last instruction of a quantum, or at the first: the task stands nowhere else.
func TestQuantumOfSleep(t *testing.T) {
	for quantum := 1; quantum <= 4; quantum++ {
		m := load(t, program(function(3, sleep(2)+num(2, 1)+sleep(2)+emit(2))), config(1, quantum))
		wantTurn(t, m, 0)
		wantState(t, m, api.Waiting)
		wantTurn(t, m, 0)
		if quantum == 1 {
			wantState(t, m, api.Running, 1)
			wantTurn(t, m, 0)
		}
		wantState(t, m, api.Waiting)
		wantTurn(t, m, 0)
		wantState(t, m, api.Waiting)
	}
}

// A task sleeps as long as it is told to, whatever the ticks of the turns: not in the queue ahead of its time, and there at the first turn with which it has come.
func TestAnySleep(t *testing.T) {
	random := rand.New(rand.NewSource(7))
	for range 300 {
		n := random.Intn(12) - 2
		m := load(t, program(function(3, num(2, n)+sleep(2)+emit(2)+jump(1))), wide)
		m.Turn(int64(random.Intn(50)), nil)
		until := m.Clock() + int64(max(n, 0))
		for range 30 {
			if q := m.Queue(); len(q) > 0 || m.State() != api.Waiting {
				t.Fatalf("P6: a task that sleeps is in the queue: %v, state %d", q, m.State())
			}
			got := m.Turn(int64(random.Intn(6)-1), nil)
			if has := m.Clock() >= until; has != (len(got) == 1) {
				t.Fatalf("P6: sleep of %d till %d: at %d it tells %v", n, until, m.Clock(), got)
			} else if has {
				until = m.Clock() + int64(max(n, 0))
			}
		}
	}
}
