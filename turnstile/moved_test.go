package turnstile_test

import (
	"slices"
	"testing"

	"turnstile/api"
)

// Four cells are in a chain from register 2 on: the slot 0 of each has the next, and the slot 1 of the third the number 33. Register 0 has a function cell, 6 and 5 have the numbers 0 and 1.
func fourAnd(function int) string {
	third := cell(3, 2) + cell(4, 2) + put(4, 6, 3) + num(3, 33) + put(4, 5, 3)
	return num(5, 1) + third + cell(3, 2) + put(3, 6, 4) + cell(2, 2) + put(2, 6, 3) + num(3, 0) + num(4, 0) + caught(0, function, 6)
}

// The functions beside the first.
const (
	givesArgument = 1 + iota
	givesCaught
	waitsAndTells
)

var (
	// takes has the third cell in register 4, and loses in the second where it was.
	takes = get(3, 2, 6) + get(4, 3, 6) + put(3, 6, 6) + num(3, 0)
	// tellsIt tells the slot 1 of the cell in register 4.
	tellsIt = get(3, 4, 5) + emit(3)
)

// changes are what a task may do with the third cell of the chain, or with new ones, while the collector is at it. Those that tell something in the end tell 33.
var changes = []struct {
	what     string
	function int
	change   string
	stay     int    // cells that can be reached then
	stayed   int    // cells there are at the end of the cycle that was going on
	tell     string // the code
}{
	{"into a register", givesArgument, takes, 5, 5, tellsIt},
	{"into another register of its own", givesArgument, takes + move(1, 4) + num(4, 0), 5, 5, move(4, 1) + tellsIt},
	{"into a slot of the first", givesArgument, takes + put(2, 5, 4) + num(4, 0), 5, 5, get(4, 2, 5) + tellsIt},
	{"into the first, in place of the second", givesArgument, takes + put(2, 6, 4) + num(4, 0), 4, 5, get(4, 2, 6) + tellsIt},
	{"into a slot of itself, and held", givesArgument, takes + put(4, 6, 4), 4, 5, get(4, 4, 6) + tellsIt},
	{"into a slot of itself, and let go", givesArgument, takes + put(4, 6, 4) + num(4, 0), 3, 5, ""},
	{"into an outcome", givesArgument, takes + spawn(4, 0, 4), 5, 5, await(4, 4) + tellsIt},
	{"into the registers of another task", waitsAndTells, takes + spawn(4, 0, 4), 5, 5, yield},
	{"into the registers of a task that is cancelled", waitsAndTells, takes + spawn(4, 0, 4) + cancel(4), 3, 5, ""},
	{"into a function cell", givesCaught, takes + caught(4, givesCaught, 4), 6, 6, call(4, 4, 6) + tellsIt},
	{"into a function cell in the first", givesCaught, takes + caught(4, givesCaught, 4) + put(2, 5, 4) + num(4, 0), 6, 6, get(4, 2, 5) + call(4, 4, 6) + tellsIt},
	{"into a function cell that is let go", givesCaught, takes + caught(4, givesCaught, 4) + num(4, 0), 3, 6, ""},
	{"into what a task's function cell has caught", givesCaught, takes + caught(4, givesCaught, 4) + spawn(4, 4, 6), 5, 6, await(4, 4) + tellsIt},
	{"into a new cell", givesArgument, takes + cell(3, 1) + put(3, 6, 4) + num(4, 0), 6, 6, get(4, 3, 6) + tellsIt},
	{"into a new cell that is let go", givesArgument, takes + cell(3, 1) + put(3, 6, 4) + num(4, 0) + num(3, 0), 3, 6, ""},
	{"into a new cell and out again", givesArgument, takes + cell(3, 1) + put(3, 6, 4) + num(4, 0) + get(4, 3, 6) + put(3, 6, 6) + num(3, 0), 5, 6, tellsIt},
	{"let go", givesArgument, takes + num(4, 0), 3, 5, ""},
	{"let go with the second", givesArgument, put(2, 6, 6), 2, 5, ""},
	{"all let go", givesArgument, num(2, 0) + num(0, 0), 0, 5, ""},
	{"a slot is written and written back", givesArgument, takes + get(3, 2, 6) + put(3, 6, 4) + num(3, 0) + num(4, 0), 5, 5, get(4, 2, 6) + get(4, 4, 6) + tellsIt},
	{"new and let go", givesArgument, cell(4, 3) + num(4, 0), 5, 6, ""},
	{"new and held", givesArgument, cell(4, 2) + num(3, 33) + put(4, 5, 3), 6, 6, tellsIt},
	{"new, in the first", givesArgument, cell(4, 2) + num(3, 33) + put(4, 5, 3) + put(2, 5, 4) + num(4, 0), 6, 6, get(4, 2, 5) + tellsIt},
	{"new, in a new one in the first", givesArgument, cell(4, 2) + num(3, 33) + put(4, 5, 3) + cell(3, 1) + put(3, 6, 4) + put(2, 5, 3) + num(3, 0) + num(4, 0), 7, 7, get(4, 2, 5) + get(4, 4, 6) + tellsIt},
	{"new, in place of the second", givesArgument, cell(4, 2) + num(3, 33) + put(4, 5, 3) + put(2, 6, 4) + num(4, 0), 3, 6, get(4, 2, 6) + tellsIt},
}

// A cycle's units are as many as cells could be reached when it began, and Cells more, whatever is changed meanwhile. What could be reached then, or is new, stays; behind the next cycle only what can be reached is there, and it is what it was.
func TestChangesWhileACycleGoesOn(t *testing.T) {
	const cells, reached = 8, 5
	for _, c := range changes {
		text := program(
			steps(fourAnd(c.function), c.change, c.tell, forLong),
			function(2, giveBack(0)),
			function(2, giveBack(1)),
			function(4, num(2, 1)+num(3, 1)+read(2, 2)+get(2, 0, 3)+emit(2)))
		for _, work := range []int{1, 2, 3, 4, 5, 6, 7, 12, 13, 14, 50} {
			for turns := 1; turns <= 2*(reached+cells)/work+2; turns++ {
				m := load(t, text, workConfig(cells, work))
				want, left := api.Counts{}, 0
				for range turns {
					wantTurn(t, m, 0)
					if left == 0 {
						left = reached + cells
					}
					want.Units += min(work, left)
					left -= min(work, left)
					want.Cycles += oneIf(left == 0)
				}
				wantCollector(t, c.what+": ahead of the change", m, reached, want)
				m.Turn(0, to(0, 1))
				if left > 0 {
					want.Units, want.Cycles = want.Units+left, want.Cycles+1
					toCycle(t, m, want.Cycles)
					wantCollector(t, c.what+": the cycle that was going on", m, c.stayed, want)
				}
				want.Units, want.Cycles = want.Units+c.stay+cells, want.Cycles+1
				toCycle(t, m, want.Cycles)
				wantCollector(t, c.what+": the cycle behind it", m, c.stay, want)
				events := slices.Concat(m.Turn(0, slices.Concat(to(0, 1), to(1, 1))), m.Turn(0, nil), m.Turn(0, nil))
				isWrong := func(e api.Event) bool { return e.Kind != api.Ended && (e.Kind != api.Emitted || e.N != 33) }
				isEmitted := func(e api.Event) bool { return e.Kind == api.Emitted }
				if slices.ContainsFunc(events, isWrong) || slices.ContainsFunc(events, isEmitted) != (c.tell != "") {
					t.Fatalf("P8: %s: work %d, %d turns: %v", c.what, work, turns, events)
				}
			}
		}
	}
}

// Two tasks take a cell, one after the other, out of a slot into a register, then into a function cell, and lay it back, and make others that they let go. They tell the same whatever Work is.
func TestTasksThatHandACellOn(t *testing.T) {
	main := function(8, num(5, 1)+cell(2, 1)+cell(3, 2)+num(4, 33)+put(3, 5, 4)+put(2, 6, 3)+num(3, 0)+caught(4, 1, 2)+spawn(3, 4, 6)+spawn(3, 4, 6)+giveBack(3))
	// In register 1 is the cell with the slot. What is taken can be reached through one thing only at each time.
	taker := function(8, num(5, 1)+get(2, 1, 6)+unless(2, 14)+put(1, 6, 6)+yield+caught(3, 2, 2)+num(2, 0)+yield+call(2, 3, 6)+get(3, 2, 5)+emit(3)+put(1, 6, 2)+num(2, 0)+cell(3, 3)+yield+jump(1))
	hands := function(2, giveBack(1))
	text := program(main, taker, hands)
	for _, cells := range []int{5, 6, 7, 11, 30, 200} {
		var want [][]api.Event
		for work := 1; work <= 50; work++ {
			m := load(t, text, workConfig(cells, work))
			got := eventsByTurn(m, make([][]api.Input, 150))
			if work == 1 {
				want = got
			}
			if !slices.EqualFunc(got, want, slices.Equal[[]api.Event]) {
				t.Fatalf("P8: %d cells: work %d tells %v, and 1 %v", cells, work, got, want)
			}
			told := slices.Concat(got...)
			isWrong := func(e api.Event) bool { return e != ended(3) && e != by(2, emitted(33)) && e != by(3, emitted(33)) }
			if len(told) < 30 || slices.ContainsFunc(told, isWrong) {
				t.Fatalf("P8: %d cells, work %d: %v", cells, work, told)
			}
		}
	}
}
