// Package code reads the bytes of a program.
package code

// Function is one function of a program.
type Function struct {
	Registers int
	Code      []Instruction
}

// Instruction is an instruction and its operands, byte by byte as the program has them.
type Instruction struct {
	Op, A, B, C byte
}

// Number is what b and c are together: 16 bits with a sign.
func (i Instruction) Number() int64 { return int64(int16(i.pair())) }

// Target is what b and c are together as a t: the number of an instruction.
func (i Instruction) Target() int { return int(i.pair()) }

func (i Instruction) pair() uint16 { return uint16(i.B)<<8 | uint16(i.C) }

// Read takes a program apart. If the bytes are no program, ok is false, and at is the first byte that may not be what it is, or the length, if bytes are missing.
func Read(text string) (functions []Function, at int, ok bool) {
	r := reader{text: text}
	functions, ok = r.program()
	if !ok {
		return nil, r.at, false
	}
	return functions, 0, true
}
