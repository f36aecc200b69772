package turnstile_test

import (
	"slices"
	"strings"
	"testing"

	"turnstile/api"
	"turnstile/turnstile"
)

// A task runs just Quantum instructions at a turn, and goes on behind them at the next.
func TestQuantum(t *testing.T) {
	for quantum := 1; quantum <= 50; quantum++ {
		m := load(t, program(function(2, strings.Repeat(emit(0), 120))), config(1, quantum))
		for left := 120; left > 0; left -= quantum {
			wantState(t, m, api.Running, 1)
			want := slices.Repeat([]api.Event{emitted(0)}, min(left, quantum))
			if left < quantum {
				want = append(want, ended(0))
			}
			wantTurn(t, m, 0, want...)
		}
		if 120%quantum == 0 {
			wantState(t, m, api.Running, 1)
			wantTurn(t, m, 0, ended(0))
		}
		wantState(t, m, api.Finished)
		wantTurn(t, m, 0)
	}
}

// wantTurns is a machine that tells this turn by turn, lives meanwhile, and has finished behind the last turn.
func wantTurns(t *testing.T, what string, m *turnstile.Machine, turns ...[]api.Event) {
	t.Helper()
	for i, want := range turns {
		if m.State() != api.Running || !slices.Equal(m.Queue(), []int{1}) {
			t.Errorf("P10: %s: ahead of turn %d the state is %d, the queue %v", what, i, m.State(), m.Queue())
		}
		if got := m.Turn(1, nil); !slices.Equal(got, want) {
			t.Errorf("P4: %s: turn %d tells %v, want %v", what, i, got, want)
		}
	}
	wantState(t, m, api.Finished)
	for range 3 {
		wantTurn(t, m, 1)
	}
	if want := int64(len(turns) + 3); m.Clock() != want {
		t.Errorf("P10: %s: the time is %d, want %d", what, m.Clock(), want)
	}
}

func tells(events ...api.Event) []api.Event { return events }

func TestLastInstructionOfTheQuantum(t *testing.T) {
	for _, c := range []struct {
		what, code string
		quantum    int
		turns      [][]api.Event
	}{
		{"Return is the last", num(2, 4) + giveBack(2), 2, [][]api.Event{tells(ended(4))}},
		{"Return is one behind", num(2, 4) + giveBack(2), 1, [][]api.Event{nil, tells(ended(4))}},
		{"the end is behind the last", num(2, 4) + emit(2), 2, [][]api.Event{tells(emitted(4)), tells(ended(0))}},
		{"the end is within", num(2, 4) + emit(2), 3, [][]api.Event{tells(emitted(4), ended(0))}},
		{"it fails at the last", emit(0) + get(2, 2, 2), 2, [][]api.Event{tells(emitted(0), failed(api.BadCell))}},
		{"it fails one behind", emit(0) + get(2, 2, 2), 1, [][]api.Event{tells(emitted(0)), tells(failed(api.BadCell))}},
		{"Yield is the last", emit(0) + yield + emit(0) + giveBack(0), 2, [][]api.Event{tells(emitted(0)), tells(emitted(0), ended(0))}},
		{"Yield is one behind", emit(0) + yield + emit(0) + giveBack(0), 1, [][]api.Event{tells(emitted(0)), nil, tells(emitted(0)), tells(ended(0))}},
		{"Yield is within", emit(0) + yield + emit(0) + giveBack(0), 9, [][]api.Event{tells(emitted(0)), tells(emitted(0), ended(0))}},
		{"the end is behind Yield", yield, 1, [][]api.Event{nil, tells(ended(0))}},
		{"the end is behind Yield, with room", yield, 9, [][]api.Event{nil, tells(ended(0))}},
		{"a jump to the end is the last", jump(2) + emit(0), 1, [][]api.Event{nil, tells(ended(0))}},
		{"Unless to the end is the last", unless(0, 2) + emit(0), 1, [][]api.Event{nil, tells(ended(0))}},
	} {
		wantTurns(t, c.what, load(t, program(function(3, c.code)), config(1, c.quantum)), c.turns...)
	}
}

// deep is a program of functions that call one another, the first one the second and so on. Each but the last one ends behind its Call.
func deep(n int, last string) string {
	functions := []string{}
	for i := range n - 1 {
		functions = append(functions, function(3, caught(2, i+1, 0)+call(0, 2, 0)))
	}
	return program(append(functions, function(3, last))...)
}

func TestEndsAreNoInstructions(t *testing.T) {
	for n := 1; n <= 8; n++ {
		// All functions end at one place, and that is no instruction.
		instructions := 2*(n-1) + 1
		m := load(t, deep(n, emit(0)), config(10, instructions))
		wantTurns(t, "all ends wait", m, tells(emitted(0)), tells(ended(0)))
		m = load(t, deep(n, emit(0)), config(10, instructions+1))
		wantTurns(t, "all ends are within", m, tells(emitted(0), ended(0)))
		m = load(t, deep(n, giveBack(0)), config(10, instructions))
		if n == 1 {
			wantTurns(t, "Return of the only one", m, tells(ended(0)))
		} else {
			wantTurns(t, "ends behind Return", m, nil, tells(ended(0)))
		}
	}
}

// Behind the ends a whole quantum is left.
func TestQuantumBehindEnds(t *testing.T) {
	text := program(function(4, caught(2, 1, 0)+call(3, 2, 0)+emit(3)+emit(3)+emit(3)), function(2, num(1, 1)))
	m := load(t, text, config(2, 3))
	wantTurns(t, "three more", m, nil, tells(emitted(0), emitted(0), emitted(0)), tells(ended(0)))
	m = load(t, text, config(2, 2))
	wantTurns(t, "two by two", m, nil, tells(emitted(0)), tells(emitted(0), emitted(0)), tells(ended(0)))
}

func TestYield(t *testing.T) {
	m := load(t, program(function(3, emit(0)+num(2, 1)+of(api.Add, 0, 0, 2)+yield+jump(0))), wide)
	for i := range int64(60) {
		wantTurn(t, m, 0, emitted(i))
		wantState(t, m, api.Running, 1)
	}
}
