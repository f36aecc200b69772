package turnstile_test

import (
	"slices"
	"strings"
	"sync"
	"testing"

	"turnstile/api"
	"turnstile/turnstile"
)

// wantCollector is what the two calls answer that ask for the collector.
func wantCollector(t *testing.T, what string, m *turnstile.Machine, occupied int, want api.Counts) {
	t.Helper()
	if m.Occupied() != occupied || m.Counts() != want {
		t.Fatalf("P11: %s: %d cells, %+v, want %d, %+v", what, m.Occupied(), m.Counts(), occupied, want)
	}
}

func workConfig(cells, work int) api.Config {
	return api.Config{Cells: cells, Quantum: 50, Work: work, Tasks: 16}
}

// toCycle goes on till so many cycles in all have ended.
func toCycle(t *testing.T, m *turnstile.Machine, cycles int) {
	t.Helper()
	for range 2*2*api.MaxCells + 1 {
		if m.Counts().Cycles >= cycles {
			return
		}
		m.Turn(0, nil)
	}
	t.Fatalf("P11: the cycle does not end: %+v", m.Counts())
}

// chainOf makes a chain of so many cells, held by register 3 alone, and goes on with more code behind that.
func chainOf(n int, more string) string {
	return num(2, n) + num(5, 1) + unless(2, 8) + of(api.Sub, 2, 2, 5) + cell(4, 1) + put(4, 6, 3) + move(3, 4) + jump(2) + num(4, 0) + more
}

// forLong sleeps longer than a test goes on.
var forLong = num(7, 30000) + sleep(7)

// idling is a machine that has a chain of so many cells, and whose only task sleeps; no cycle is going on.
func idling(t *testing.T, length int, c api.Config) *turnstile.Machine {
	t.Helper()
	m := load(t, program(function(8, chainOf(length, forLong))), c)
	all(m, 30)
	wantState(t, m, api.Waiting)
	toCycle(t, m, m.Counts().Cycles+1)
	return m
}

// A cycle has a unit for each cell that can be reached, and one for each place; each turn works Work of them, and the last one what is left.
func TestUnitsOfEachTurn(t *testing.T) {
	for _, cells := range []int{1, 2, 3, 12, 199, 200} {
		for _, reached := range []int{0, 1, cells / 2, cells - 1, cells} {
			for _, work := range []int{1, 2, 7, 13, 24, 25, 49, 50} {
				m := idling(t, reached, workConfig(cells, work))
				want := m.Counts()
				for range 3 {
					for left := reached + cells; left > 0; left -= work {
						wantTurn(t, m, 0)
						want.Units += min(work, left)
						if left <= work {
							want.Cycles++
						}
						wantCollector(t, "a chain", m, reached, want)
					}
				}
			}
		}
	}
}

// From the first turn on.
func TestCollectorOfTheExample(t *testing.T) {
	m := load(t, "\x01\x02\x03\x00\x00\x00\x05\x14\x00\x00\x00\x0e\x00\x00\x00", api.Config{Cells: 5, Quantum: 2, Work: 3, Tasks: 1})
	wantCollector(t, "no turn", m, 0, api.Counts{})
	wantTurn(t, m, 0, emitted(5))
	wantCollector(t, "the first turn", m, 0, api.Counts{Units: 3})
	wantTurn(t, m, 0, ended(5))
	for range 4 {
		wantCollector(t, "the last task has ended", m, 0, api.Counts{Units: 5, Cycles: 1})
		wantTurn(t, m, 1)
	}
}

// To ask changes nothing.
func TestAskingTheCollector(t *testing.T) {
	asked, other := load(t, builds, workConfig(40, 3)), load(t, builds, workConfig(40, 3))
	for range 30 {
		asked.Turn(0, nil)
		other.Turn(0, nil)
		for range 5 {
			asked.Occupied()
			asked.Counts()
		}
	}
	wantCollector(t, "asked often", asked, other.Occupied(), other.Counts())
	if asked.Counts().Units == 0 {
		t.Error("P11: no unit was worked")
	}
}

// The collector works at a turn at which no task runs, whatever the tasks wait for.
func TestCollectorWithAnEmptyQueue(t *testing.T) {
	for what, c := range map[string]struct {
		code  string
		state int
	}{
		"asleep":   {cell(2, 0) + cell(3, 0) + num(3, 0) + forLong, api.Waiting},
		"reading":  {cell(2, 0) + cell(3, 0) + num(3, 0) + read(7, 7), api.Waiting},
		"awaiting": {cell(2, 0) + caught(3, 1, 0) + spawn(7, 3, 0) + num(3, 0) + await(7, 7), api.Stuck},
	} {
		m := load(t, program(function(8, c.code), function(2, num(0, 1)+await(0, 0))), workConfig(6, 50))
		m.Turn(0, nil)
		m.Turn(0, nil)
		for n := range 4 {
			wantState(t, m, c.state)
			wantCollector(t, what, m, 1, api.Counts{Units: 14 + 7*n, Cycles: 2 + n})
			wantTurn(t, m, 0)
		}
	}
}

// The turn at which the last task lives no more has its step 5; those behind it have none.
func TestCollectorWhenTheLastTaskGoes(t *testing.T) {
	made := cell(2, 0) + cell(3, 1) + put(3, 0, 2) + cell(4, 0)
	for _, c := range []struct {
		what, code string
		reached    int
		told       api.Event
	}{
		{"gives a number", made + giveBack(0), 0, ended(0)},
		{"at its end", made, 0, ended(0)},
		{"gives a cell", made + giveBack(2), 1, ended(0)},
		{"gives a cell with another", made + giveBack(3), 2, ended(0)},
		{"fails", made + emit(2), 0, failed(api.BadNumber)},
		{"cancels itself", made + num(2, 1) + cancel(2), 0, cancelled(1)},
	} {
		for _, work := range []int{1, c.reached + 6, 50} {
			m := load(t, program(function(5, c.code)), workConfig(6, work))
			wantTurn(t, m, 0, c.told)
			occupied, want := 3, api.Counts{Units: 1}
			if work > 1 {
				occupied, want = c.reached, api.Counts{Units: c.reached + 6, Cycles: 1}
			}
			if work == 1 && c.reached == 0 { // A place was looked at, and no cell gone through.
				occupied = 2
			}
			for range 5 {
				wantState(t, m, api.Finished)
				wantCollector(t, c.what, m, occupied, want)
				m.Turn(1, to(0, 7))
			}
		}
	}
}

// The turn at which the machine is spent has its step 5: it was not spent when the turn began. Those behind it have none.
func TestCollectorOfASpentMachine(t *testing.T) {
	for cells := 1; cells <= 3; cells++ {
		for _, work := range []int{1, 2*cells - 1, 2 * cells, 50} {
			m := load(t, program(function(5, yield+cell(1, 0)+cell(2, 0)+cell(3, 0)+cell(4, 0))), workConfig(cells, work))
			wantTurn(t, m, 0)
			before := api.Counts{Units: min(work, cells), Cycles: oneIf(work >= cells)}
			wantCollector(t, "ahead of Memory", m, 0, before)
			wantTurn(t, m, 0, memory)
			want := api.Counts{Units: before.Units + min(work, 2*cells), Forced: 1, Cycles: before.Cycles + oneIf(work >= 2*cells)}
			for range 5 {
				wantState(t, m, api.Spent)
				wantCollector(t, "behind Memory", m, cells, want)
				m.Turn(1, to(0, 7))
			}
		}
	}
}

func oneIf(so bool) int {
	if so {
		return 1
	}
	return 0
}

// steps is a program that runs, one by one, each behind a byte that comes to socket 0 (in register 7), these pieces of code.
func steps(pieces ...string) string {
	return function(8, strings.Join(pieces, read(7, 6))+read(7, 6))
}

// A forced collection ends the cycle that is going on, which is not counted, and the next is a whole one that begins at this turn's step 5.
func TestForcedAmidACycle(t *testing.T) {
	// A chain of four in five cells; then one more, which is the last that is free; then two go, and three are asked for.
	four := cell(2, 1) + cell(3, 1) + put(3, 6, 2) + cell(2, 1) + put(2, 6, 3) + cell(3, 1) + put(3, 6, 2) + num(2, 0)
	asks := cell(2, 0) + get(3, 3, 6) + get(3, 3, 6) + cell(4, 0) + cell(5, 0)
	text := program(steps(four, asks, forLong))
	for turns := 1; turns <= 20; turns++ {
		m := load(t, text, workConfig(5, 1))
		for range turns {
			wantTurn(t, m, 0)
		}
		// A cycle has nine units.
		want := api.Counts{Units: turns, Cycles: turns / 9}
		wantCollector(t, "a chain of four", m, 4, want)
		m.Turn(0, to(0, 1))
		want.Units, want.Forced = want.Units+1, 1
		wantCollector(t, "forced", m, 5, want)
		for left := 10 - 1; left > 0; left-- {
			wantCollector(t, "the cycle behind it", m, 5, want)
			wantTurn(t, m, 0)
			want.Units++
		}
		want.Cycles++
		wantCollector(t, "the cycle behind it has ended", m, 5, want)
	}
}

// Each forced collection counts, many of them at one turn too, and none is forced while a cell is free.
func TestForcedCollectionsAreCounted(t *testing.T) {
	for cells := 1; cells <= 7; cells++ {
		lost := strings.Repeat(cell(2, 0)+num(2, 0), 21)
		m := load(t, program(function(8, lost+forLong)), workConfig(cells, 50))
		wantTurn(t, m, 0)
		// All 21 are let go: each collection frees all cells.
		wantCollector(t, "cells that are let go", m, 0, api.Counts{Units: cells, Forced: 20 / cells, Cycles: 1})
		wantTurn(t, m, 0)
		wantCollector(t, "a turn behind", m, 0, api.Counts{Units: 2 * cells, Forced: 20 / cells, Cycles: 2})
	}
	m := load(t, program(function(8, strings.Repeat(cell(2, 0), 20)+forLong)), workConfig(20, 50))
	wantTurn(t, m, 0)
	wantCollector(t, "as many as there are", m, 1, api.Counts{Units: 21, Cycles: 1})
}

// Cells that cannot be reached are there till the collector has freed them, though nobody asks for one; and that is when the cycle behind the one that is going on has ended.
func TestLetGoWhileACycleGoesOn(t *testing.T) {
	text := program(steps(cell(2, 1)+cell(3, 1)+put(3, 6, 2)+cell(2, 8), num(2, 0)+num(3, 0), forLong))
	for _, cells := range []int{3, 4, 20, 200} {
		for _, work := range []int{1, 3, 10, 50} {
			for wait := range (3+cells)/work + 2 {
				m := load(t, text, workConfig(cells, work))
				for range wait + 1 {
					wantTurn(t, m, 0)
				}
				cycles, worked := m.Counts().Cycles, m.Counts().Units%(3+cells)
				m.Turn(0, to(0, 1))
				if worked > 0 {
					cycles++
					toCycle(t, m, cycles)
					if m.Occupied() != 3 {
						t.Fatalf("P11: %d cells, work %d: %d behind the cycle that was going on, want 3", cells, work, m.Occupied())
					}
				}
				toCycle(t, m, cycles+1)
				if m.Occupied() != 0 || m.Counts().Forced != 0 {
					t.Fatalf("P11: %d cells, work %d: %d cells, %+v", cells, work, m.Occupied(), m.Counts())
				}
			}
		}
	}
}

// Calls from several goroutines answer as if they had come one after the other.
func TestCollectorAskedFromSeveralGoroutines(t *testing.T) {
	text := program(function(4, cell(2, 1)+yield+cell(3, 1)+put(3, 0, 2)+yield+num(3, 0)+jump(0)))
	type answer struct {
		occupied int
		counts   api.Counts
	}
	var right []answer
	for one := load(t, text, workConfig(9, 2)); len(right) <= 800; one.Turn(0, nil) {
		right = append(right, answer{one.Occupied(), one.Counts()})
	}
	m := load(t, text, workConfig(9, 2))
	var group sync.WaitGroup
	for range 8 {
		group.Go(func() {
			for range 100 {
				m.Turn(0, nil)
				counts := m.Counts()
				if !slices.ContainsFunc(right, func(a answer) bool { return a.counts == counts }) {
					t.Errorf("P2: %+v came at no turn", counts)
				}
				if n := m.Occupied(); n < 1 || n > 9 {
					t.Errorf("P2: %d cells of 9", n)
				}
			}
		})
	}
	group.Wait()
	wantCollector(t, "800 turns", m, right[800].occupied, right[800].counts)
}

// What the collector of one machine does is not seen in another.
func TestCollectorsAreApart(t *testing.T) {
	one, other := load(t, builds, workConfig(40, 5)), load(t, builds, workConfig(40, 5))
	for range 20 {
		one.Turn(0, nil)
	}
	wantCollector(t, "a machine that stands still", other, 0, api.Counts{})
	if one.Counts().Units == 0 || one.Occupied() == 0 {
		t.Errorf("P11: %d cells, %+v behind 20 turns", one.Occupied(), one.Counts())
	}
}
