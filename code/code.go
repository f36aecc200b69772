// Package code reads the bytes of a program.
package code

// Function is one function of a program.
type Function struct {
	Registers int
	Code      []Instruction
}

// Instruction is an instruction and its operands, byte by byte as the program has them.
type Instruction struct {
	Op, A, B, C byte
}

// Read takes a program apart. If the bytes are no program, ok is false, and at is the first byte that may not be what it is, or the length, if bytes are missing.
func Read(text string) (functions []Function, at int, ok bool) {
	r := reader{text: text}
	functions, ok = r.program()
	if !ok {
		return nil, r.at, false
	}
	return functions, 0, true
}
