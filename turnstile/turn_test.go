package turnstile_test

import (
	"math"
	"slices"
	"strings"
	"testing"

	"turnstile/api"
	"turnstile/turnstile"
)

var wide = api.Config{Cells: 200, Quantum: 50, Work: 50, Tasks: 16}

func emitted(n int64) api.Event { return api.Event{Kind: api.Emitted, Task: 1, N: n} }
func ended(n int64) api.Event   { return api.Event{Kind: api.Ended, Task: 1, N: n} }
func failed(why int) api.Event  { return api.Event{Kind: api.Failed, Task: 1, N: int64(why)} }

var memory = api.Event{Kind: api.Memory, Task: 1}

func cancelled(task int) api.Event { return api.Event{Kind: api.Cancelled, Task: task} }

// by is an event of another task than the first.
func by(task int, e api.Event) api.Event {
	e.Task = task
	return e
}

func num(a, n int) string           { return line(api.Num, a, n>>8&255, n&255) }
func move(a, b int) string          { return line(api.Move, a, b, 0) }
func emit(a int) string             { return line(api.Emit, a, 0, 0) }
func giveBack(a int) string         { return line(api.Return, a, 0, 0) }
func now(a int) string              { return line(api.Now, a, 0, 0) }
func jump(to int) string            { return line(api.Jump, 0, 0, to) }
func unless(a, to int) string       { return line(api.Unless, a, 0, to) }
func cell(a, slots int) string      { return line(api.Cell, a, slots, 0) }
func get(a, b, c int) string        { return line(api.Get, a, b, c) }
func put(a, b, c int) string        { return line(api.Put, a, b, c) }
func caught(a, f, c int) string     { return line(api.Func, a, f, c) }
func call(a, b, c int) string       { return line(api.Call, a, b, c) }
func spawn(a, b, c int) string      { return line(api.Spawn, a, b, c) }
func sleep(a int) string            { return line(api.Sleep, a, 0, 0) }
func await(a, b int) string         { return line(api.Await, a, b, 0) }
func cancel(a int) string           { return line(api.Cancel, a, 0, 0) }
func read(a, b int) string          { return line(api.Read, a, b, 0) }
func of(op int, a, b, c int) string { return line(op, a, b, c) }
func config(cells, quantum int) api.Config {
	return api.Config{Cells: cells, Quantum: quantum, Work: 1, Tasks: 16}
}

func load(t *testing.T, text string, c api.Config) *turnstile.Machine {
	t.Helper()
	m, f := turnstile.Load(text, c)
	if m == nil {
		t.Fatalf("P3: Load(%x, %+v): %+v", text, c, f)
	}
	return m
}

func wantTurn(t *testing.T, m *turnstile.Machine, ticks int64, want ...api.Event) {
	t.Helper()
	if got := m.Turn(ticks, nil); !slices.Equal(got, want) {
		t.Errorf("P4: Turn(%d) tells %v, want %v", ticks, got, want)
	}
}

func wantState(t *testing.T, m *turnstile.Machine, state int, queue ...int) {
	t.Helper()
	if q := m.Queue(); m.State() != state || !slices.Equal(q, queue) {
		t.Errorf("P10: State %d, Queue %v, want %d, %v", m.State(), q, state, queue)
	}
}

// wantAll runs a function with 8 registers till it has ended, which it must within one turn.
func wantAll(t *testing.T, what, code string, want ...api.Event) {
	t.Helper()
	m := load(t, program(function(8, code)), wide)
	if got := m.Turn(0, nil); !slices.Equal(got, want) {
		t.Errorf("P4: %s: %v, want %v", what, got, want)
	}
	wantState(t, m, api.Finished)
}

func TestExampleOfTheDocument(t *testing.T) {
	m := load(t, "\x01\x02\x03\x00\x00\x00\x05\x14\x00\x00\x00\x0e\x00\x00\x00", config(1, 2))
	wantState(t, m, api.Running, 1)
	wantTurn(t, m, 0, emitted(5))
	wantState(t, m, api.Running, 1)
	wantTurn(t, m, 0, ended(5))
	wantState(t, m, api.Finished)
}

func TestNum(t *testing.T) {
	for _, n := range []int{0, 1, 127, 128, 255, 256, 32767, -1, -128, -256, -257, -32768} {
		wantAll(t, "Num", num(7, n)+emit(7)+giveBack(7), emitted(int64(n)), ended(int64(n)))
	}
}

func TestMove(t *testing.T) {
	wantAll(t, "a number", num(2, 9)+move(3, 2)+num(2, 1)+emit(2)+emit(3), emitted(1), emitted(9), ended(0))
	wantAll(t, "onto itself", num(2, 9)+move(2, 2)+emit(2), emitted(9), ended(0))
	wantAll(t, "a cell", cell(2, 1)+move(3, 2)+put(3, 0, 0)+of(api.Same, 4, 2, 3)+giveBack(4), ended(1))
}

// greatest leaves the greatest number in register 2, the least in 3 and 1 in 4, and then runs more code.
func greatest(code string) string {
	// 2 to the 14th, 28th and 56th, and 2 to the 7th times that.
	least := num(3, 1<<14) + of(api.Mul, 3, 3, 3) + of(api.Mul, 3, 3, 3) + num(2, 1<<7) + of(api.Mul, 3, 3, 2)
	return least + num(4, 1) + of(api.Sub, 2, 3, 4) + code
}

func TestNumbersWrapRound(t *testing.T) {
	wantAll(t, "the ends", greatest(emit(2)+emit(3)), emitted(math.MaxInt64), emitted(math.MinInt64), ended(0))
	for _, c := range []struct {
		op, b, c int
		want     int64
	}{
		{api.Add, 2, 4, math.MinInt64}, {api.Add, 2, 2, -2}, {api.Add, 3, 3, 0}, {api.Add, 2, 3, -1},
		{api.Sub, 3, 4, math.MaxInt64}, {api.Sub, 3, 2, 1}, {api.Sub, 2, 3, -1}, {api.Sub, 0, 3, math.MinInt64}, {api.Sub, 0, 2, -math.MaxInt64},
		{api.Mul, 2, 2, 1}, {api.Mul, 3, 3, 0}, {api.Mul, 2, 3, math.MinInt64}, {api.Mul, 3, 4, math.MinInt64},
		{api.Less, 3, 2, 1}, {api.Less, 2, 3, 0}, {api.Less, 2, 2, 0}, {api.Less, 3, 3, 0}, {api.Less, 3, 0, 1}, {api.Less, 2, 0, 0},
		{api.Same, 3, 3, 1}, {api.Same, 2, 3, 0}, {api.Same, 2, 2, 1}, {api.Same, 3, 0, 0},
	} {
		wantAll(t, "wraps round", greatest(of(c.op, 5, c.b, c.c)+giveBack(5)), ended(c.want))
	}
	wantAll(t, "-1 times the least", greatest(num(5, -1)+of(api.Mul, 6, 5, 3)+giveBack(6)), ended(math.MinInt64))
}

func TestSums(t *testing.T) {
	for _, c := range []struct {
		op, b, c int
		want     int64
	}{
		{api.Add, 7, 5, 12}, {api.Add, -7, 5, -2}, {api.Sub, 7, 5, 2}, {api.Sub, 5, 7, -2}, {api.Mul, 7, 5, 35}, {api.Mul, -7, 5, -35}, {api.Mul, -7, -5, 35}, {api.Mul, 0, 5, 0},
		{api.Less, 5, 7, 1}, {api.Less, 7, 5, 0}, {api.Less, 7, 7, 0}, {api.Less, -7, -5, 1}, {api.Less, -1, 0, 1}, {api.Less, 0, -1, 0},
		{api.Same, 7, 7, 1}, {api.Same, 7, -7, 0}, {api.Same, 0, 0, 1}, {api.Same, 0, 1, 0},
	} {
		code := num(2, c.b) + num(3, c.c) + of(c.op, 4, 2, 3) + emit(2) + emit(3) + emit(4)
		wantAll(t, "apart", code, emitted(int64(c.b)), emitted(int64(c.c)), emitted(c.want), ended(0))
		// a may be b or c: they are looked at first.
		wantAll(t, "into b", num(2, c.b)+num(3, c.c)+of(c.op, 2, 2, 3)+giveBack(2), ended(c.want))
		wantAll(t, "into c", num(2, c.b)+num(3, c.c)+of(c.op, 3, 2, 3)+giveBack(3), ended(c.want))
	}
}

func TestSameOfCells(t *testing.T) {
	two := cell(2, 1) + cell(3, 1)
	wantAll(t, "two cells", two+of(api.Same, 4, 2, 3)+giveBack(4), ended(0))
	wantAll(t, "two without slots", cell(2, 0)+cell(3, 0)+of(api.Same, 4, 2, 3)+giveBack(4), ended(0))
	wantAll(t, "one cell", two+move(3, 2)+of(api.Same, 4, 2, 3)+giveBack(4), ended(1))
	wantAll(t, "two function cells", caught(2, 0, 0)+caught(3, 0, 0)+of(api.Same, 4, 2, 3)+giveBack(4), ended(0))
	wantAll(t, "one function cell", caught(2, 0, 0)+of(api.Same, 4, 2, 2)+giveBack(4), ended(1))
	wantAll(t, "a cell and what is in it", two+put(2, 0, 3)+of(api.Same, 4, 2, 3)+emit(4)+get(5, 2, 0)+of(api.Same, 4, 5, 3)+giveBack(4), emitted(0), ended(1))
	for n := range 4 {
		wantAll(t, "a cell and a number", two+num(4, n)+of(api.Same, 5, 2, 4)+emit(5)+of(api.Same, 5, 4, 3)+giveBack(5), emitted(0), ended(0))
	}
}

func TestJumps(t *testing.T) {
	wantAll(t, "ahead", jump(2)+emit(0)+num(2, 3)+giveBack(2), ended(3))
	wantAll(t, "to the end", num(2, 3)+jump(3)+giveBack(2), ended(0))
	wantAll(t, "to the next", jump(1)+num(2, 3)+giveBack(2), ended(3))
	wantAll(t, "back", unless(2, 2)+giveBack(2)+num(2, 3)+jump(0), ended(3))
	wantAll(t, "Unless to the end", unless(0, 3)+num(0, 1)+emit(0), ended(0))
	for _, n := range []int{1, -1, 256, -32768} {
		wantAll(t, "Unless of a number", num(2, n)+unless(2, 3)+giveBack(2), ended(int64(n)))
	}
	wantAll(t, "Unless of a cell", cell(2, 0)+unless(2, 4)+num(3, 5)+giveBack(3), ended(5))
	wantAll(t, "Unless of a function cell", caught(2, 0, 0)+unless(2, 4)+num(3, 5)+giveBack(3), ended(5))
}

func TestJumpsIntoALongFunction(t *testing.T) {
	for _, to := range []int{1, 127, 128, 198, 199} {
		code := strings.Repeat(giveBack(0), 200)
		code = jump(to) + code[4:4*to] + emit(0) + code[4*to+4:]
		wantAll(t, "far", code, emitted(0), ended(0))
	}
	wantAll(t, "to the end of 200", jump(200)+strings.Repeat(emit(0), 199), ended(0))
}

func TestSlots(t *testing.T) {
	for slots := range 9 {
		for at := range slots {
			code := cell(2, slots) + num(3, at) + get(4, 2, 3) + emit(4) + num(4, 70+at) + put(2, 3, 4) + num(4, 0) + get(4, 2, 3)
			wantAll(t, "each slot", code+giveBack(4), emitted(0), ended(int64(70+at)))
		}
		for _, at := range []int{slots, slots + 1, 9, 256, 32767, -1, -8, -32768} {
			wantAll(t, "no slot to get", cell(2, slots)+num(3, at)+get(4, 2, 3), failed(api.BadIndex))
			wantAll(t, "no slot to put", cell(2, slots)+num(3, at)+put(2, 3, 3), failed(api.BadIndex))
		}
		wantAll(t, "the least slot", greatest(cell(5, slots)+get(6, 5, 3)), failed(api.BadIndex))
		wantAll(t, "the greatest slot", greatest(cell(5, slots)+put(5, 2, 0)), failed(api.BadIndex))
	}
}

func TestSlotsAreApart(t *testing.T) {
	fill, tell := cell(2, 8), ""
	var want []api.Event
	for i := range 8 {
		fill += num(3, i) + num(4, 10*i) + put(2, 3, 4)
		tell += num(3, i) + get(4, 2, 3) + emit(4)
		want = append(want, emitted(int64(10*i)))
	}
	m := load(t, program(function(8, fill+tell)), wide)
	if got := slices.Concat(m.Turn(0, nil), m.Turn(0, nil)); !slices.Equal(got, append(want, ended(0))) {
		t.Errorf("P4: slots that are apart: %v", got)
	}
}

func TestGetAndPutIntoTheirOwnRegisters(t *testing.T) {
	wantAll(t, "a cell in itself", cell(2, 1)+put(2, 0, 2)+get(3, 2, 0)+of(api.Same, 4, 2, 3)+giveBack(4), ended(1))
	wantAll(t, "Get into b", cell(2, 2)+num(3, 1)+put(2, 3, 3)+get(2, 2, 3)+giveBack(2), ended(1))
	wantAll(t, "Get into c", cell(2, 2)+num(3, 1)+num(4, 8)+put(2, 3, 4)+get(3, 2, 3)+giveBack(3), ended(8))
	wantAll(t, "Put of its index", cell(2, 2)+num(3, 1)+put(2, 3, 3)+get(4, 2, 3)+giveBack(4), ended(1))
}

func TestWhatIsGivenAtTheEnd(t *testing.T) {
	wantAll(t, "no Return", num(0, 5), ended(0))
	wantAll(t, "registers begin with 0", emit(0)+emit(1)+emit(2)+emit(6)+giveBack(7), emitted(0), emitted(0), emitted(0), emitted(0), ended(0))
	wantAll(t, "a cell", cell(2, 1)+giveBack(2), ended(0))
	wantAll(t, "a function cell", caught(2, 0, 0)+giveBack(2), ended(0))
	wantAll(t, "nothing runs behind Return", num(2, -4)+giveBack(2)+emit(2), ended(-4))
}

func TestTime(t *testing.T) {
	m := load(t, program(function(2, now(0)+emit(0)+yield+jump(0))), plain)
	for _, c := range []struct{ ticks, want int64 }{
		{0, 0}, {5, 5}, {-1, 5}, {math.MinInt64, 5}, {1, 6}, {0, 6}, {math.MaxInt64 - 7, math.MaxInt64 - 1},
		{1, math.MaxInt64}, {1, math.MaxInt64}, {-1, math.MaxInt64}, {math.MinInt64, math.MaxInt64}, {math.MaxInt64, math.MaxInt64}, {0, math.MaxInt64},
	} {
		wantTurn(t, m, c.ticks, emitted(c.want))
		if m.Clock() != c.want {
			t.Errorf("P10: Clock is %d, want %d", m.Clock(), c.want)
		}
	}
	m = load(t, program(idle), plain)
	for _, ticks := range []int64{math.MaxInt64 - 1, math.MaxInt64} {
		m.Turn(ticks, nil)
	}
	if m.Clock() != math.MaxInt64 {
		t.Errorf("P4: the time goes beyond the greatest: %d", m.Clock())
	}
}

func TestTimeOfAFinishedMachine(t *testing.T) {
	m := load(t, program(function(2, giveBack(0))), plain)
	wantTurn(t, m, 3, ended(0))
	for _, c := range []struct{ ticks, want int64 }{{4, 7}, {-4, 7}, {math.MinInt64, 7}, {math.MaxInt64, math.MaxInt64}, {9, math.MaxInt64}} {
		wantTurn(t, m, c.ticks)
		if m.Clock() != c.want {
			t.Errorf("P4: Clock is %d, want %d", m.Clock(), c.want)
		}
		wantState(t, m, api.Finished)
	}
}

// The time of a turn is the one at its beginning, ticks and all, for all its instructions.
func TestNowWithinATurn(t *testing.T) {
	m := load(t, program(function(3, now(2)+emit(2)+now(2)+emit(2)+jump(0))), config(1, 5))
	wantTurn(t, m, 4, emitted(4), emitted(4))
	wantTurn(t, m, 3, emitted(7), emitted(7))
}

func TestInputsOfAnySocket(t *testing.T) {
	var in []api.Input
	for _, socket := range []int{-1, 0, 1, 2, 3, 4, 255, math.MaxInt, math.MinInt} {
		for b := range 256 {
			in = append(in, api.Input{Socket: socket, Byte: byte(b)})
		}
	}
	before := slices.Clone(in)
	for _, code := range []string{emit(0) + giveBack(0), emit(0) + cell(0, 0) + cell(0, 0), yield + jump(0)} {
		m, same := load(t, program(function(2, code)), config(1, 1)), load(t, program(function(2, code)), config(1, 1))
		for range 5 {
			if got, want := m.Turn(2, in), same.Turn(2, nil); !slices.Equal(got, want) {
				t.Errorf("P4: with bytes that nobody reads %v, without %v", got, want)
			}
			if m.State() != same.State() || !slices.Equal(m.Queue(), same.Queue()) || m.Clock() != same.Clock() {
				t.Errorf("P4: bytes that nobody reads have changed the machine")
			}
		}
	}
	if !slices.Equal(in, before) {
		t.Error("P2: the inputs were written into")
	}
}
