package turnstile_test

import (
	"math/rand"
	"slices"
	"strings"
	"testing"

	"turnstile/api"
	"turnstile/turnstile"
)

// writer writes programs that often do something: by habit registers 2 and 3 have numbers, 4 and 5 cells with slots, 6 and 7 function cells.
type writer struct {
	*rand.Rand
	functions int
}

func (w writer) number() int   { return w.habit(2, 3) }
func (w writer) slotted() int  { return w.habit(4, 5) }
func (w writer) callable() int { return w.habit(6, 7) }
func (w writer) any() int      { return w.Intn(8) }

func (w writer) habit(one, other int) int {
	switch n := w.Intn(100); {
	case n < 50:
		return one
	case n < 98:
		return other
	}
	return w.any()
}

func (w writer) program() string {
	var functions []string
	for f := range w.functions {
		code := num(2, w.Intn(4)) + num(3, w.Intn(3)) + cell(4, 4+w.Intn(4)) + move(5, 4) + caught(6, min(f+1, w.functions-1), 4) + move(7, 6)
		if f == 0 {
			code += strings.Repeat(spawn(3, 6, 2), w.Intn(4))
		}
		length := len(code)/api.BytesOfCode + 1 + w.Intn(25)
		for len(code)/api.BytesOfCode < length-1 {
			code += w.instruction(f, length)
		}
		functions = append(functions, function(8, code+w.last(length)))
	}
	return program(functions...)
}

func (w writer) last(length int) string {
	if w.Intn(3) > 0 {
		return jump(w.Intn(length))
	}
	return giveBack(w.number())
}

func (w writer) instruction(f, length int) string {
	switch w.Intn(21) {
	case 0:
		return num(w.number(), w.Intn(5)-w.Intn(2))
	case 1:
		return of(api.Add+w.Intn(4), w.number(), w.number(), w.number())
	case 2:
		return of(api.Same, w.number(), w.any(), w.any())
	case 3:
		return unless(w.any(), w.Intn(length+1))
	case 4, 5:
		return cell(w.slotted(), w.Intn(9))
	case 6:
		return get(w.any(), w.slotted(), w.number())
	case 7, 8:
		return put(w.slotted(), w.number(), w.any())
	case 9:
		return caught(w.callable(), min(f+w.Intn(3), w.functions-1), w.any())
	case 10:
		return call(w.number(), w.callable(), w.any())
	case 11:
		return emit(w.number())
	case 12:
		return yield
	case 13:
		return now(w.number())
	case 14:
		return move(w.slotted(), w.slotted())
	case 15, 16, 17, 18, 19:
		return w.withOthers()
	}
	return w.rare(length)
}

// withOthers is an instruction that has to do with other tasks, or with the world.
func (w writer) withOthers() string {
	switch w.Intn(8) {
	case 0, 1, 2:
		return spawn(w.number(), w.callable(), w.any())
	case 3:
		return sleep(w.number())
	case 4, 5:
		return await(w.any(), w.number())
	case 6:
		return cancel(w.number())
	}
	return read(w.number(), w.number())
}

func (w writer) rare(length int) string {
	switch w.Intn(4) {
	case 0:
		return move(w.any(), w.any())
	case 1:
		return giveBack(w.any())
	case 2:
		return jump(w.Intn(length + 1))
	}
	return num(w.any(), w.Intn(10))
}

// input is what comes in at a turn: mostly little, now and then more than can wait.
func (w writer) input() []api.Input {
	var in []api.Input
	n := w.Intn(3)
	if w.Intn(20) == 0 {
		n = 300
	}
	for range n {
		in = append(in, api.Input{Socket: w.Intn(6) - 1, Byte: byte(w.Intn(6))})
	}
	return in
}

// told counts what machines have told and how they have stood, so that tame programs are found out.
type told struct {
	events map[[2]int64]int
	states map[int]int
	cycles int
	forced [3]int // by the cycle's phase
}

func newTold() *told { return &told{events: map[[2]int64]int{}, states: map[int]int{}} }

func (seen *told) count(events []api.Event, state int) {
	for _, e := range events {
		if e.Kind == api.Emitted || e.Kind == api.Ended {
			e.N = 0
		}
		seen.events[[2]int64{int64(e.Kind), e.N}]++
	}
	seen.states[state]++
}

func (seen *told) countCollector(k modelCollector) {
	seen.cycles += k.counts.Cycles
	for phase, n := range k.forced {
		seen.forced[phase] += n
	}
}

// wantEach is that each kind of event, each failure, each state and each kind of collection has come often enough.
func (seen *told) wantEach(t *testing.T, least int) {
	t.Helper()
	kinds := [][2]int64{{api.Emitted, 0}, {api.Ended, 0}, {api.Cancelled, 0}, {api.Memory, 0}}
	for why := range int64(8) {
		kinds = append(kinds, [2]int64{api.Failed, why + 1})
	}
	for _, k := range kinds {
		if seen.events[k] < least {
			t.Errorf("the programs are too tame: %v came %d times, of %v", k, seen.events[k], seen.events)
		}
	}
	for state := api.Running; state <= api.Spent; state++ {
		if seen.states[state] < least {
			t.Errorf("the programs are too tame: the state %d came %d times, of %v", state, seen.states[state], seen.states)
		}
	}
	if seen.cycles < least || slices.Min(seen.forced[:]) < least {
		t.Errorf("the programs are too tame: %d cycles, forced collections %v", seen.cycles, seen.forced)
	}
}

// sameAsModel holds a machine against the model, turn by turn.
func sameAsModel(t *testing.T, w writer, text string, c api.Config, turns int, seen *told) {
	t.Helper()
	m, right := load(t, text, c), newModel(text, c)
	for n := range turns {
		ticks, in := w.Int63n(5)-1, w.input()
		got, want := m.Turn(ticks, in), right.turn(ticks, in)
		state, queue := right.state()
		if !slices.Equal(got, want) {
			t.Fatalf("P4: %x, %+v: turn %d tells %v, want %v", text, c, n, got, want)
		}
		if m.State() != state || !slices.Equal(m.Queue(), queue) || m.Clock() != right.clock {
			t.Fatalf("P10: %x, %+v: turn %d: %d %v %d, want %d %v %d", text, c, n, m.State(), m.Queue(), m.Clock(), state, queue, right.clock)
		}
		if m.Occupied() != right.collector.occupied() || m.Counts() != right.collector.counts {
			t.Fatalf("P11: %x, %+v: turn %d: %d cells, %+v, want %d, %+v", text, c, n, m.Occupied(), m.Counts(), right.collector.occupied(), right.collector.counts)
		}
		seen.count(got, state)
	}
	seen.countCollector(right.collector)
}

func anyConfig(random *rand.Rand) api.Config {
	most := []int{10, 40, 200}[random.Intn(3)]
	return api.Config{Cells: 1 + random.Intn(most), Quantum: 1 + random.Intn(50), Work: 1 + random.Intn(50), Tasks: 1 + random.Intn(16)}
}

func TestAnyProgramAgainstTheModel(t *testing.T) {
	random := rand.New(rand.NewSource(2))
	seen := newTold()
	for range 6000 {
		w := writer{random, 1 + random.Intn(4)}
		sameAsModel(t, w, w.program(), anyConfig(random), 60, seen)
	}
	seen.wantEach(t, 20)
}

// The same program with other numbers of cells and units: the events are the same up to Memory, turn by turn.
func TestAnyProgramWithFewerCells(t *testing.T) {
	random := rand.New(rand.NewSource(3))
	for range 300 {
		w := writer{random, 1 + random.Intn(4)}
		text, c := w.program(), anyConfig(random)
		var in [][]api.Input
		for range 60 {
			in = append(in, w.input())
		}
		c.Cells = 200
		most := eventsByTurn(load(t, text, c), in)
		for _, cells := range []int{1, 2, 3, 5, 8, 13, 30, 100} {
			c.Cells, c.Work = cells, 1+random.Intn(50)
			wantUpToMemory(t, text, eventsByTurn(load(t, text, c), in), most)
		}
	}
}

// The same program with other numbers of units: the events are the same, turn by turn, and so are the states.
func TestAnyProgramWhateverWorkIs(t *testing.T) {
	random := rand.New(rand.NewSource(6))
	for range 300 {
		w := writer{random, 1 + random.Intn(4)}
		text, c := w.program(), anyConfig(random)
		var in [][]api.Input
		for range 60 {
			in = append(in, w.input())
		}
		c.Work = 1
		least := load(t, text, c)
		want := eventsByTurn(least, in)
		for _, work := range []int{2, 3, 7, 20, 50} {
			c.Work = work
			m := load(t, text, c)
			got := eventsByTurn(m, in)
			if !slices.EqualFunc(got, want, slices.Equal[[]api.Event]) {
				t.Fatalf("P8: %x, %+v: work %d tells %v, and 1 %v", text, c, work, got, want)
			}
			if m.State() != least.State() || !slices.Equal(m.Queue(), least.Queue()) {
				t.Fatalf("P8: %x, %+v: work %d: state %d, queue %v, and with 1 %d, %v", text, c, work, m.State(), m.Queue(), least.State(), least.Queue())
			}
		}
	}
}

func eventsByTurn(m *turnstile.Machine, in [][]api.Input) [][]api.Event {
	var turns [][]api.Event
	for _, i := range in {
		turns = append(turns, m.Turn(1, i))
	}
	return turns
}

func isMemory(e api.Event) bool { return e.Kind == api.Memory }

func wantUpToMemory(t *testing.T, text string, got, most [][]api.Event) {
	t.Helper()
	for n := range got {
		at := slices.IndexFunc(got[n], isMemory)
		if at < 0 {
			if !slices.Equal(got[n], most[n]) {
				t.Fatalf("P8: %x: turn %d tells %v with fewer cells, and %v with more", text, n, got[n], most[n])
			}
			continue
		}
		if at > len(most[n]) || !slices.Equal(got[n][:at], most[n][:at]) || at != len(got[n])-1 {
			t.Fatalf("P8: %x: turn %d tells %v with fewer cells, and %v with more", text, n, got[n], most[n])
		}
		if left := slices.Concat(got[n+1:]...); len(left) > 0 {
			t.Fatalf("P9: %x: behind Memory come %v", text, left)
		}
		return
	}
}

func FuzzTurn(f *testing.F) {
	random := rand.New(rand.NewSource(4))
	for n := range 20 {
		f.Add(writer{random, 3}.program(), 5, 10, 1+n, 1+n%16)
	}
	f.Add(mixed, 1, 1, 1, 1)
	f.Add(program(function(8, strings.Repeat(caught(2, 0, 2)+call(2, 2, 2), 100))), 200, 50, 50, 16)
	f.Fuzz(func(t *testing.T, text string, cells, quantum, work, tasks int) {
		c := api.Config{Cells: cells, Quantum: quantum, Work: work, Tasks: tasks}
		if m, _ := turnstile.Load(text, c); m == nil {
			return
		}
		sameAsModel(t, writer{Rand: rand.New(rand.NewSource(5))}, text, c, 30, newTold())
	})
}
