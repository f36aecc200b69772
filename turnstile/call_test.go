package turnstile_test

import (
	"slices"
	"testing"

	"turnstile/api"
)

// wantProgram runs a program till it has ended, which it must within one turn.
func wantProgram(t *testing.T, what, text string, want ...api.Event) {
	t.Helper()
	m := load(t, text, wide)
	if got := m.Turn(0, nil); !slices.Equal(got, want) {
		t.Errorf("P4: %s: %v, want %v", what, got, want)
	}
	wantState(t, m, api.Finished)
}

func TestCall(t *testing.T) {
	differs := function(3, emit(0)+emit(1)+emit(2)+of(api.Sub, 2, 0, 1)+giveBack(2))
	main := num(2, 9) + caught(3, 1, 2) + num(4, 20) + call(5, 3, 4) + emit(5) + emit(4) + emit(2)
	wantProgram(t, "what it is called with, caught, gives", program(function(6, main), differs),
		emitted(20), emitted(9), emitted(0), emitted(11), emitted(20), emitted(9), ended(0))
	wantProgram(t, "into its own registers", program(function(6, num(2, 9)+caught(3, 1, 2)+call(3, 3, 2)+emit(3)), differs),
		emitted(9), emitted(9), emitted(0), emitted(0), ended(0))
	wantProgram(t, "without Return", program(function(6, num(5, 7)+caught(3, 1, 2)+call(5, 3, 4)+giveBack(5)), function(2, num(0, 5))), ended(0))
	wantProgram(t, "gives a cell", program(function(6, caught(3, 1, 2)+call(5, 3, 4)+num(2, 7)+get(4, 5, 2)+giveBack(4)), function(2, cell(0, 8)+giveBack(0))), ended(0))
}

// Each call has registers of its own, which begin anew.
func TestRegistersOfCalls(t *testing.T) {
	counts := function(3, emit(2)+num(2, 8)+num(0, 8)+num(1, 8)+giveBack(2))
	main := num(2, 5) + caught(3, 1, 2) + call(4, 3, 2) + call(4, 3, 2) + emit(2) + emit(4)
	wantProgram(t, "begin with 0", program(function(5, main), counts), emitted(0), emitted(0), emitted(5), emitted(8), ended(0))
	tells := function(2, emit(0)+emit(1))
	again := num(2, 5) + caught(3, 1, 2) + num(2, 6) + call(4, 3, 2) + num(2, 7) + call(4, 3, 2)
	wantProgram(t, "what is caught stays", program(function(5, again), tells), emitted(6), emitted(5), emitted(7), emitted(5), ended(0))
}

func TestEachFunctionCanBeCalled(t *testing.T) {
	functions := []string{""}
	main := ""
	var want []api.Event
	for i := 1; i < 8; i++ {
		functions = append(functions, function(2, num(0, 100+i)+giveBack(0)))
		main += caught(2, i, 0) + call(3, 2, 0) + emit(3)
		want = append(want, emitted(int64(100+i)))
	}
	functions[0] = function(4, main)
	wantProgram(t, "seven functions", program(functions...), append(want, ended(0))...)
}

// depth is a program in which just n functions are running when the last one tells the caught number; each gives one more than it got.
func depth(n int) string {
	main := num(2, n-2) + cell(3, 1) + caught(4, 1, 3) + put(3, 5, 4) + call(6, 4, 2) + giveBack(6)
	down := num(3, 1) + unless(0, 7) + of(api.Sub, 0, 0, 3) + get(4, 1, 5) + call(2, 4, 0) + of(api.Add, 2, 2, 3) + giveBack(2) + emit(0) + giveBack(3)
	return program(function(7, main), function(6, down))
}

func TestTwentyFunctionsRunning(t *testing.T) {
	for _, n := range []int{2, 3, 19, 20, 21, 22, 40} {
		m := load(t, depth(n), config(10, 50))
		var got []api.Event
		for range 20 {
			got = append(got, m.Turn(0, nil)...)
		}
		want := []api.Event{emitted(0), ended(int64(n - 1))}
		if n > 20 {
			want = []api.Event{failed(api.TooDeep)}
		}
		if !slices.Equal(got, want) {
			t.Errorf("P4: %d functions running: %v, want %v", n, got, want)
		}
		wantState(t, m, api.Finished)
	}
}

// Functions that are back run no more: calls one behind the other are not deep.
func TestManyCallsAreNotDeep(t *testing.T) {
	m := load(t, program(function(4, caught(2, 1, 0)+call(3, 2, 0)+emit(3)+jump(1)), function(2, giveBack(0))), config(1, 4))
	var got []api.Event
	for range 100 {
		got = append(got, m.Turn(0, nil)...)
	}
	if len(got) < 90 || !slices.Equal(got, slices.Repeat([]api.Event{emitted(0)}, len(got))) {
		t.Errorf("P4: calls one behind the other: %v", got)
	}
}

// A task that fails has failed whole, however many functions are running.
func TestFailsWithinACall(t *testing.T) {
	text := program(function(4, caught(2, 1, 0)+call(3, 2, 0)+emit(3)), function(4, caught(2, 2, 0)+call(3, 2, 0)+emit(3)), function(2, emit(0)+get(0, 0, 0)+emit(0)))
	wantProgram(t, "three deep", text, emitted(0), failed(api.BadCell))
}
