package code

import (
	"reflect"
	"testing"
	"unsafe"

	"turnstile/api"
)

// two is a program of two functions that differ in all their numbers.
var two = []byte{
	2,
	3, 2, api.Func, 2, 1, 0, api.Num, 1, 255, 254,
	2, 3, api.Unless, 1, 0, 3, api.Cell, 0, 8, 0, api.Return, 1, 0, 0,
}

func wantOfTwo() []Function {
	return []Function{
		{Registers: 3, Code: []Instruction{{api.Func, 2, 1, 0}, {api.Num, 1, 255, 254}}},
		{Registers: 2, Code: []Instruction{{api.Unless, 1, 0, 3}, {api.Cell, 0, 8, 0}, {api.Return, 1, 0, 0}}},
	}
}

func TestReadTakesApart(t *testing.T) {
	functions, at, ok := Read(string(two))
	if !ok || at != 0 || !reflect.DeepEqual(functions, wantOfTwo()) {
		t.Errorf("P3: Read: %+v, %d, %v", functions, at, ok)
	}
}

func TestReadOfNoProgram(t *testing.T) {
	for n := range two {
		if functions, at, ok := Read(string(two[:n])); ok || at != n || functions != nil {
			t.Errorf("P3: Read of %d bytes: %+v, %d, %v", n, functions, at, ok)
		}
	}
}

// A text over memory that changes later shows whether any of it is kept.
func TestReadKeepsNothing(t *testing.T) {
	memory := append([]byte(nil), two...)
	functions, _, ok := Read(unsafe.String(&memory[0], len(memory)))
	if !ok || string(memory) != string(two) {
		t.Fatalf("P2: Read wrote into the text: %v, %x", ok, memory)
	}
	clear(memory)
	if !reflect.DeepEqual(functions, wantOfTwo()) {
		t.Errorf("P2: the functions have changed with the text: %+v", functions)
	}
}

func TestReadsShareNothing(t *testing.T) {
	first, _, _ := Read(string(two))
	second, _, _ := Read(string(two))
	for _, f := range first {
		clear(f.Code[:cap(f.Code)])
	}
	clear(first[:cap(first)])
	if !reflect.DeepEqual(second, wantOfTwo()) {
		t.Errorf("P2: one program has changed with another: %+v", second)
	}
}

func TestPairsOfBytes(t *testing.T) {
	for _, c := range []struct {
		b, c   byte
		number int64
		target int
	}{
		{0, 0, 0, 0}, {0, 1, 1, 1}, {0, 255, 255, 255}, {1, 0, 256, 256}, {127, 255, 32767, 32767},
		{128, 0, -32768, 32768}, {255, 255, -1, 65535}, {255, 0, -256, 65280}, {0, 200, 200, 200},
	} {
		i := Instruction{Op: 255, A: 255, B: c.b, C: c.c}
		if i.Number() != c.number || i.Target() != c.target {
			t.Errorf("P4: the bytes %d %d are %d and %d, want %d and %d", c.b, c.c, i.Number(), i.Target(), c.number, c.target)
		}
	}
}
