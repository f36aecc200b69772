package turnstile_test

import (
	"math"
	"slices"
	"testing"

	"turnstile/api"
	"turnstile/turnstile"
)

// to is bytes that come to one socket.
func to(socket int, bytes ...byte) []api.Input {
	var in []api.Input
	for _, b := range bytes {
		in = append(in, api.Input{Socket: socket, Byte: b})
	}
	return in
}

func wantInput(t *testing.T, m *turnstile.Machine, in []api.Input, want ...api.Event) {
	t.Helper()
	if got := m.Turn(0, in); !slices.Equal(got, want) {
		t.Errorf("P4: Turn with %v tells %v, want %v", in, got, want)
	}
}

// echo reads at the socket that it is called with, and tells each byte.
var echo = function(3, read(2, 0)+emit(2)+jump(0))

// readers is a program whose first task spawns one that reads at each of these sockets.
func readers(sockets ...int) string {
	main := caught(2, 1, 0)
	for _, s := range sockets {
		main += num(3, s) + spawn(4, 2, 3)
	}
	return program(function(5, main), echo)
}

// settled is a machine whose tasks all wait.
func settled(t *testing.T, text string) *turnstile.Machine {
	t.Helper()
	m := load(t, text, wide)
	for m.State() == api.Running {
		m.Turn(0, nil)
	}
	wantState(t, m, api.Waiting)
	return m
}

func TestRead(t *testing.T) {
	m := settled(t, readers(0))
	for b := range 256 {
		wantInput(t, m, to(0, byte(b)), by(2, emitted(int64(b))))
		wantState(t, m, api.Waiting)
		wantInput(t, m, nil)
	}
	// The first byte wakes the task, the others wait for it, and it runs on with them.
	wantInput(t, m, to(0, 5, 6, 7), by(2, emitted(5)), by(2, emitted(6)), by(2, emitted(7)))
	wantState(t, m, api.Waiting)
}

// Each socket has bytes and readers of its own; what is no socket has none.
func TestReadAtEachSocket(t *testing.T) {
	m := settled(t, readers(3, 2, 1, 0))
	for socket := range 4 {
		task := 5 - socket
		wantInput(t, m, to(socket, byte(70+socket)), by(task, emitted(int64(70+socket))))
		wantState(t, m, api.Waiting)
	}
	for _, socket := range []int{-1, 4, 5, -4, 256, 1 << 32, 1<<32 + 1, -1 << 32, math.MaxInt, math.MinInt} {
		wantInput(t, m, to(socket, 1, 2, 3))
		wantState(t, m, api.Waiting)
	}
	m = settled(t, readers(1))
	for _, socket := range []int{0, 2, 3} {
		wantInput(t, m, to(socket, 9))
		wantState(t, m, api.Waiting)
	}
	wantInput(t, m, to(1, 8), by(2, emitted(8)))
}

// A byte goes to the task that has waited longest.
func TestSeveralReadAtOneSocket(t *testing.T) {
	m := settled(t, readers(2, 2, 2))
	wantInput(t, m, to(2, 10), by(2, emitted(10)))
	wantInput(t, m, to(2, 11), by(3, emitted(11)))
	wantInput(t, m, to(2, 12), by(4, emitted(12)))
	wantInput(t, m, to(2, 13), by(2, emitted(13)))
	// Two bytes: the tasks go to the queue one behind the other.
	wantInput(t, m, to(2, 14, 15), by(3, emitted(14)))
	wantState(t, m, api.Running, 4)
	// 2 waits yet, and is ahead of 3.
	wantInput(t, m, to(2, 16), by(4, emitted(15)))
	wantState(t, m, api.Running, 2)
	wantInput(t, m, nil, by(2, emitted(16)))
	// Four bytes for three: the fourth waits for who reads first again.
	wantInput(t, m, to(2, 20, 21, 22, 23), by(3, emitted(20)), by(3, emitted(23)))
	wantState(t, m, api.Running, 4, 2)
	wantInput(t, m, nil, by(4, emitted(21)))
	wantInput(t, m, nil, by(2, emitted(22)))
	wantState(t, m, api.Waiting)
}

// Bytes of several sockets wake their readers in the order of the bytes, not of the sockets.
func TestBytesComeInTheirOrder(t *testing.T) {
	m := settled(t, readers(0, 1, 2, 3))
	wantInput(t, m, slices.Concat(to(3, 1), to(4, 2), to(0, 3), to(2, 4)), by(5, emitted(1)))
	wantState(t, m, api.Running, 2, 4)
	wantInput(t, m, to(1, 5), by(2, emitted(3)))
	wantState(t, m, api.Running, 4, 3)
}

// late sleeps for a tick, and then tells what has come to the socket meanwhile.
var late = program(function(4, num(2, 1)+sleep(2)+read(3, 0)+emit(3)+jump(2)))

// readAll is what the task of late reads in so many turns.
func readAll(t *testing.T, m *turnstile.Machine, turns int) []byte {
	t.Helper()
	var got []byte
	for _, e := range all(m, turns) {
		if e.Kind != api.Emitted || e.Task != 1 {
			t.Fatalf("P4: a reader tells %v", e)
		}
		got = append(got, byte(e.N))
	}
	return got
}

// 64 bytes may wait, over one turn or several; all others are lost.
func TestBytesThatWait(t *testing.T) {
	many := make([]byte, 300)
	for i := range many {
		many[i] = byte(i)
	}
	for _, n := range []int{0, 1, 63, 64, 65, 66, 128, 300} {
		m := load(t, late, wide)
		m.Turn(0, to(0, many[:n]...))
		if got := readAll(t, m, 9); !slices.Equal(got, many[:min(n, 64)]) {
			t.Errorf("P4: of %d bytes are read %v", n, got)
		}
		wantState(t, m, api.Waiting)
		m = load(t, late, wide)
		for _, b := range many[:n] {
			m.Turn(0, slices.Concat(to(0, b), to(1, 99), to(-1, 99)))
		}
		if got := readAll(t, m, 9); !slices.Equal(got, many[:min(n, 64)]) {
			t.Errorf("P4: of %d bytes, turn by turn, are read %v", n, got)
		}
	}
}

// A byte that was read leaves room for another, at its own socket.
func TestRoomForBytes(t *testing.T) {
	m := load(t, late, config(1, 3))
	wantInput(t, m, to(0, slices.Repeat([]byte{7}, 70)...))
	wantInput(t, m, to(0, 9))
	if got := m.Turn(1, to(0, 8)); !slices.Equal(got, tells(emitted(7))) {
		t.Errorf("P4: the first byte: %v", got)
	}
	// One has been read: of two bytes one finds room.
	if got := m.Turn(0, to(0, 5, 6)); !slices.Equal(got, tells(emitted(7))) {
		t.Errorf("P4: the second byte: %v", got)
	}
	got := readAll(t, m, 100)
	want := append(slices.Repeat([]byte{7}, 62), 5)
	if !slices.Equal(got, want) {
		t.Errorf("P4: behind a byte that was read come %v, want %v", got, want)
	}
}

// Bytes that come in when a task waits are not counted with those that wait.
func TestManyBytesForOneReader(t *testing.T) {
	m := settled(t, readers(0))
	m.Turn(0, to(0, slices.Repeat([]byte{3}, 100)...))
	n := 0
	for range 10 {
		n += len(m.Turn(0, nil))
	}
	// The first turn has told some: its quantum is 50, and three instructions tell one.
	if n != 65-17 {
		t.Errorf("P4: %d bytes are told behind the first turn, want %d", n, 65-17)
	}
}

func TestNoSocket(t *testing.T) {
	for _, n := range []int{-1, 4, 5, 255, 256, -4, 32767, -32768} {
		m := load(t, program(function(4, num(2, n)+read(3, 2)+emit(3))), wide)
		wantTurn(t, m, 0, failed(api.BadSocket))
		wantState(t, m, api.Finished)
	}
	for _, r := range []int{2, 3} {
		m := load(t, program(function(6, greatest(read(5, r)))), wide)
		wantTurn(t, m, 0, failed(api.BadSocket))
	}
	// 2 to the 32nd is no socket, though its lower half is 0.
	m := load(t, program(function(6, num(5, 1<<14)+of(api.Mul, 5, 5, 5)+num(4, 16)+of(api.Mul, 5, 5, 4)+read(5, 5))), wide)
	wantTurn(t, m, 0, failed(api.BadSocket))
	for n := range 4 {
		m := load(t, program(function(4, num(2, n)+read(2, 2)+giveBack(2))), wide)
		wantTurn(t, m, 0)
		wantState(t, m, api.Waiting)
		wantInput(t, m, to(n, 200), ended(200))
	}
}

// A byte that is read comes to the function that asked, however deep it is.
func TestReadWithinACall(t *testing.T) {
	asks := function(4, num(2, 7)+read(3, 0)+emit(2)+giveBack(3))
	m := load(t, program(function(6, caught(2, 1, 0)+num(3, 1)+call(5, 2, 3)+emit(3)+giveBack(5)), asks), wide)
	wantTurn(t, m, 0)
	wantInput(t, m, to(1, 42), emitted(7), emitted(1), ended(42))
}

// A task that waits for a byte runs no further; with one that is there it runs on.
func TestQuantumOfRead(t *testing.T) {
	m := load(t, program(function(3, read(2, 0)+emit(2)+read(2, 0)+emit(2)+emit(2))), config(1, 3))
	wantInput(t, m, nil)
	wantState(t, m, api.Waiting)
	wantInput(t, m, to(0, 1, 2), emitted(1), emitted(2))
	wantState(t, m, api.Running, 1)
	wantInput(t, m, nil, emitted(2), ended(0))
	m = load(t, program(function(3, read(2, 0)+emit(2)+read(2, 0)+emit(2))), config(1, 2))
	wantInput(t, m, to(0, 1), emitted(1))
	wantState(t, m, api.Running, 1)
	wantInput(t, m, nil)
	wantState(t, m, api.Waiting)
}

// A machine that has finished takes bytes, and nothing comes of it.
func TestBytesOfAFinishedMachine(t *testing.T) {
	m := load(t, program(function(2, giveBack(0))), wide)
	wantInput(t, m, nil, ended(0))
	for range 100 {
		wantInput(t, m, slices.Concat(to(0, 1), to(3, 1)))
		wantState(t, m, api.Finished)
	}
}

// A spent machine takes bytes yet: who reads goes to the queue, but runs no more; who sleeps sleeps on.
func TestBytesOfASpentMachine(t *testing.T) {
	main := starts(1, 1, 2, 3) + yield + cell(3, 0) + cell(4, 0) + cell(5, 0)
	m := load(t, program(function(6, main), function(3, read(2, 0)+emit(2)), function(3, num(2, 1)+sleep(2)+emit(2)), spins), config(3, 50))
	for range 5 {
		wantTurn(t, m, 0)
	}
	wantState(t, m, api.Running, 1, 5)
	wantTurn(t, m, 0, memory)
	wantState(t, m, api.Spent, 5)
	for _, c := range []struct {
		in    []api.Input
		queue []int
	}{{nil, []int{5}}, {to(1, 6), []int{5}}, {to(0, 7), []int{5, 2}}, {slices.Concat(to(9, 0), to(0, 8, 9)), []int{5, 2, 3}}, {to(0, 1), []int{5, 2, 3}}} {
		if got := m.Turn(5, c.in); len(got) != 0 {
			t.Errorf("P4: a spent machine tells %v", got)
		}
		wantState(t, m, api.Spent, c.queue...)
	}
	if m.Clock() != 25 {
		t.Errorf("P10: the time of a spent machine is %d, want 25", m.Clock())
	}
}
