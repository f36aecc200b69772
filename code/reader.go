package code

import (
	"math"

	"turnstile/api"
)

// operandKinds has the kinds of the operands of each instruction, by the letters that the document gives them.
var operandKinds = [api.Instructions]string{
	api.Num:    "rkk",
	api.Move:   "rr-",
	api.Add:    "rrr",
	api.Sub:    "rrr",
	api.Mul:    "rrr",
	api.Less:   "rrr",
	api.Same:   "rrr",
	api.Jump:   "-tt",
	api.Unless: "rtt",
	api.Cell:   "rs-",
	api.Get:    "rrr",
	api.Put:    "rrr",
	api.Func:   "rfr",
	api.Call:   "rrr",
	api.Return: "r--",
	api.Spawn:  "rrr",
	api.Yield:  "---",
	api.Sleep:  "r--",
	api.Await:  "rr-",
	api.Cancel: "r--",
	api.Emit:   "r--",
	api.Read:   "rr-",
	api.Now:    "r--",
}

// reader goes through a text and stops where it cannot go on: at a byte that may not be what it is, or at the end, if bytes are missing. So at is the place of the fault, whichever it is.
type reader struct {
	text      string
	at        int
	functions int // of the program
	registers int // of the function that is being read
	length    int // of that function, in instructions
}

func (r *reader) program() ([]Function, bool) {
	n, ok := r.take(1, api.MaxFuncs)
	if !ok {
		return nil, false
	}
	r.functions = n
	functions := make([]Function, n)
	for i := range functions {
		if functions[i], ok = r.function(); !ok {
			return nil, false
		}
	}
	return functions, r.at == len(r.text)
}

func (r *reader) function() (Function, bool) {
	var ok bool
	if r.registers, ok = r.take(api.MinRegs, api.MaxRegs); !ok {
		return Function{}, false
	}
	if r.length, ok = r.take(1, api.MaxCode); !ok {
		return Function{}, false
	}
	code := make([]Instruction, r.length)
	for i := range code {
		if code[i], ok = r.instruction(); !ok {
			return Function{}, false
		}
	}
	return Function{Registers: r.registers, Code: code}, true
}

func (r *reader) instruction() (Instruction, bool) {
	start := r.at
	op, ok := r.take(0, api.Instructions-1)
	if !ok || !r.operands(operandKinds[op]) {
		return Instruction{}, false
	}
	b := r.text[start:r.at]
	return Instruction{Op: b[0], A: b[1], B: b[2], C: b[3]}, true
}

func (r *reader) operands(kinds string) bool {
	for i := range len(kinds) {
		if kinds[i] == 't' {
			// A t is always the last two operands: nothing follows it.
			return r.target()
		}
		if _, ok := r.take(0, r.highest(kinds[i])); !ok {
			return false
		}
	}
	return true
}

// highest is the greatest byte that an operand of a kind of one byte may be.
func (r *reader) highest(kind byte) int {
	switch kind {
	case 'r':
		return r.registers - 1
	case 'f':
		return r.functions - 1
	case 's':
		return api.MaxSlots
	case 'k':
		return math.MaxUint8
	}
	return 0
}

// target reads a t. Its bytes are right or wrong together, so the first is not looked at while the second is missing.
func (r *reader) target() bool {
	if len(r.text)-r.at < 2 {
		r.at = len(r.text)
		return false
	}
	if int(r.text[r.at])<<8|int(r.text[r.at+1]) > r.length {
		return false
	}
	r.at += 2
	return true
}

// take reads a byte that must be from low to high.
func (r *reader) take(low, high int) (int, bool) {
	if r.at == len(r.text) {
		return 0, false
	}
	n := int(r.text[r.at])
	if n < low || n > high {
		return 0, false
	}
	r.at++
	return n, true
}
