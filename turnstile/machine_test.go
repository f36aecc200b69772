package turnstile_test

import (
	"math"
	"slices"
	"sync"
	"testing"
	"unsafe"

	"turnstile/api"
)

// counting tells 0, 1, 2 and so on, a number at each turn.
var counting = program(function(3, emit(0)+num(2, 1)+of(api.Add, 0, 0, 2)+yield+jump(0)))

func TestMachinesAreApart(t *testing.T) {
	first, second := load(t, counting, plain), load(t, counting, plain)
	if first == second {
		t.Fatal("P2: two calls of Load gave one machine")
	}
	for i := range int64(5) {
		wantTurn(t, first, 2, emitted(i))
	}
	if second.Clock() != 0 {
		t.Errorf("P2: the time of another machine is %d", second.Clock())
	}
	wantTurn(t, second, 0, emitted(0))
	wantTurn(t, first, 0, emitted(5))
}

func TestListsAreTheCallers(t *testing.T) {
	first, second := load(t, counting, plain), load(t, counting, plain)
	var told [][]api.Event
	for i := range int64(20) {
		events, queue := first.Turn(0, nil), first.Queue()
		if !slices.Equal(events, tells(emitted(i))) || !slices.Equal(queue, []int{1}) {
			t.Fatalf("P2: turn %d tells %v, the queue is %v", i, events, queue)
		}
		told = append(told, slices.Clone(events))
		scribble(events, queue)
		if q := first.Queue(); !slices.Equal(q, []int{1}) {
			t.Errorf("P2: the queue has changed with a list that came out: %v", q)
		}
	}
	for i, want := range told {
		if got := second.Turn(0, nil); !slices.Equal(got, want) {
			t.Errorf("P2: turn %d of another machine tells %v, want %v", i, got, want)
		}
	}
}

// scribble writes over lists that came out, and over their spare room.
func scribble(events []api.Event, queue []int) {
	events, queue = events[:cap(events)], queue[:cap(queue)]
	for i := range events {
		events[i] = api.Event{Kind: 99, Task: 99, N: 99}
	}
	for i := range queue {
		queue[i] = 99
	}
}

// Lists of several events, kept side by side, stay what they were.
func TestEventsAreNotWrittenOver(t *testing.T) {
	m := load(t, program(function(2, emit(0)+emit(0)+emit(0)+now(0)+jump(0))), config(1, 5))
	var lists [][]api.Event
	for range 20 {
		lists = append(lists, m.Turn(1, nil))
	}
	for i, l := range lists {
		if !slices.Equal(l, slices.Repeat(tells(emitted(int64(i))), 3)) {
			t.Errorf("P2: the events of turn %d have become %v", i, l)
		}
	}
}

// A text over memory that changes later shows whether any of it is kept.
func TestProgramIsNotKept(t *testing.T) {
	text := []byte(counting)
	m := load(t, unsafe.String(&text[0], len(text)), plain)
	clear(text)
	for i := range int64(5) {
		wantTurn(t, m, 0, emitted(i))
	}
}

func TestAskedFromSeveralGoroutines(t *testing.T) {
	m := load(t, counting, plain)
	seen := make([][]int64, 8)
	var group sync.WaitGroup
	for g := range seen {
		group.Go(func() {
			for range 100 {
				before := m.Clock()
				events := m.Turn(1, []api.Input{{Socket: g}})
				seen[g] = append(seen[g], events[0].N)
				if q, s := m.Queue(), m.State(); !slices.Equal(q, []int{1}) || s != api.Running || m.Clock() <= before {
					t.Errorf("P2: queue %v, state %d", q, s)
				}
			}
		})
	}
	group.Wait()
	numbers := slices.Concat(seen...)
	slices.Sort(numbers)
	for i, n := range numbers {
		if n != int64(i) {
			t.Fatalf("P2: turns that came at once tell %v", numbers)
		}
	}
	if m.Clock() != 800 {
		t.Errorf("P2: the time is %d, want 800", m.Clock())
	}
}

// Bytes that several goroutines bring to several tasks are all read, each once.
func TestSeveralTasksAndGoroutines(t *testing.T) {
	m := settled(t, readers(0, 1, 2, 3))
	seen := make([][]api.Event, 4)
	var group sync.WaitGroup
	for g := range seen {
		group.Go(func() {
			for b := range 100 {
				seen[g] = append(seen[g], m.Turn(1, to(g, byte(b)))...)
				if q := m.Queue(); len(q) > 4 {
					t.Errorf("P2: the queue is %v", q)
				}
			}
		})
	}
	group.Wait()
	told := map[api.Event]int{}
	for _, e := range slices.Concat(slices.Concat(seen...), all(m, 8)) {
		told[e]++
	}
	for g := range 4 {
		for b := range int64(100) {
			if n := told[by(g+2, emitted(b))]; n != 1 {
				t.Errorf("P2: the byte %d of the socket %d is told %d times", b, g, n)
			}
		}
	}
	wantState(t, m, api.Waiting)
}

// Each goroutine has a machine of its own: they share nothing.
func TestMachinesSideBySide(t *testing.T) {
	var group sync.WaitGroup
	for range 8 {
		m := load(t, builds, config(31, 7))
		group.Go(func() {
			if got := all(m, 200); len(got) != 31 || got[30] != ended(0) {
				t.Errorf("P2: machines side by side: %v", got)
			}
		})
	}
	group.Wait()
}

// All calls end, and none panics, whatever instruction is run with whatever in its registers.
func TestCallsEnd(t *testing.T) {
	for op, row := range operands {
		for _, prepared := range []string{"", num(0, -1) + num(1, -1), cell(0, 8) + cell(1, 0), caught(0, 0, 1) + caught(1, 0, 0)} {
			one := line(op, 0, 0, 0)
			if row[1] == 'r' {
				one += line(op, 0, 1, 0) + line(op, 1, 0, 0)
			}
			m := load(t, program(function(2, prepared+one+jump(0))), config(3, 7))
			for _, ticks := range []int64{0, math.MinInt64, math.MaxInt64, 1} {
				m.Turn(ticks, []api.Input{{Socket: math.MinInt}, {Socket: 3, Byte: 255}})
				if s := m.State(); s < api.Running || s > api.Spent || len(m.Queue()) > 16 || m.Clock() < 0 {
					t.Errorf("P1: instruction %d: state %d, queue %v, time %d", op, s, m.Queue(), m.Clock())
				}
			}
		}
	}
}
