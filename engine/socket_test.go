package engine

import (
	"math"
	"slices"
	"testing"

	"turnstile/api"
	"turnstile/code"
)

var small = api.Config{Cells: 1, Quantum: 4, Work: 1, Tasks: 1}

func of(instructions ...code.Instruction) *Engine {
	return New([]code.Function{{Registers: 2, Code: instructions}}, small)
}

func wantWaiting(t *testing.T, e *Engine, want [api.Sockets]string) {
	t.Helper()
	for i, s := range e.sockets {
		if string(s.waiting) != want[i] {
			t.Errorf("P4: at the socket %d wait %q, want %q", i, s.waiting, want[i])
		}
	}
}

func to(socket int, text string) []api.Input {
	var in []api.Input
	for i := range len(text) {
		in = append(in, api.Input{Socket: socket, Byte: text[i]})
	}
	return in
}

func TestBytesWaitInTheirOrder(t *testing.T) {
	e := of(code.Instruction{Op: api.Yield}, code.Instruction{Op: api.Jump})
	e.Turn(0, nil)
	wantWaiting(t, e, [4]string{})
	e.Turn(0, slices.Concat(to(0, "ab"), to(3, "\x00\xff"), to(0, "c")))
	wantWaiting(t, e, [4]string{"abc", "", "", "\x00\xff"})
	e.Turn(-5, slices.Concat(to(1, "x"), to(3, "yy"), to(2, "z")))
	wantWaiting(t, e, [4]string{"abc", "x", "z", "\x00\xffyy"})
}

func TestSocketsThatAreNone(t *testing.T) {
	e := of(code.Instruction{Op: api.Yield})
	for _, socket := range []int{-1, 4, 5, 256, -256, 1 << 32, -1 << 32, math.MaxInt, math.MinInt} {
		e.Turn(0, slices.Concat(to(socket, "no"), to(2, ".")))
	}
	wantWaiting(t, e, [4]string{2: "........."})
}

func TestBytesAreLostBeyondTheBound(t *testing.T) {
	e := of(code.Instruction{Op: api.Yield}, code.Instruction{Op: api.Jump})
	text := make([]byte, 300)
	for i := range text {
		text[i] = byte(i)
	}
	e.Turn(0, to(1, string(text[:63])))
	wantWaiting(t, e, [4]string{1: string(text[:63])})
	e.Turn(0, slices.Concat(to(1, "!?"), to(0, "a")))
	wantWaiting(t, e, [4]string{"a", string(text[:63]) + "!", "", ""})
	e.Turn(0, slices.Concat(to(1, "?"), to(2, string(text))))
	wantWaiting(t, e, [4]string{"a", string(text[:63]) + "!", string(text[:64]), ""})
}

func TestFinishedAndSpentMachinesTakeBytes(t *testing.T) {
	finished := of(code.Instruction{Op: api.Return})
	spent := of(code.Instruction{Op: api.Cell}, code.Instruction{Op: api.Jump})
	for _, e := range []*Engine{finished, spent} {
		e.Turn(0, to(0, "a"))
		e.Turn(0, to(0, "b"))
		e.Turn(7, slices.Concat(to(0, "c"), to(9, "d")))
		wantWaiting(t, e, [4]string{"abc"})
	}
	if finished.State() != api.Finished || spent.State() != api.Spent {
		t.Errorf("P10: the states are %d and %d", finished.State(), spent.State())
	}
}

func TestInputsAreNotKept(t *testing.T) {
	e := of(code.Instruction{Op: api.Yield})
	in := to(0, "abc")
	before := slices.Clone(in)
	e.Turn(0, in)
	if !slices.Equal(in, before) {
		t.Errorf("P2: the inputs were written into: %v", in)
	}
	clear(in)
	wantWaiting(t, e, [4]string{"abc"})
}
