package turnstile_test

import (
	"math"
	"math/rand"
	"slices"
	"strings"
	"testing"

	"turnstile/api"
	"turnstile/turnstile"
)

var plain = api.Config{Cells: 10, Quantum: 10, Work: 10, Tasks: 10}

// function is the bytes of a function with so many registers.
func function(registers int, code string) string {
	return string([]byte{byte(registers), byte(len(code) / api.BytesOfCode)}) + code
}

func line(op, a, b, c int) string {
	return string([]byte{byte(op), byte(a), byte(b), byte(c)})
}

func program(functions ...string) string {
	return string([]byte{byte(len(functions))}) + strings.Join(functions, "")
}

var (
	yield = line(api.Yield, 0, 0, 0)
	idle  = function(2, yield)
)

// mixed is a program with each kind of operand in functions of several sizes.
var mixed = program(
	function(4, line(api.Num, 3, 255, 128)+line(api.Func, 3, 2, 0)+line(api.Call, 0, 3, 1)+line(api.Jump, 0, 0, 4)),
	function(2, line(api.Cell, 1, 8, 0)+line(api.Unless, 1, 0, 3)+line(api.Put, 1, 0, 1)),
	function(8, line(api.Return, 7, 0, 0)+yield),
)

func wantMachine(t *testing.T, text string, c api.Config) {
	t.Helper()
	m, f := turnstile.Load(text, c)
	if m == nil || f != (api.Fault{}) {
		t.Errorf("P3: Load(%.80x, %+v): machine %v, fault %+v, want a machine", text, c, m != nil, f)
		return
	}
	if q := m.Queue(); m.Clock() != 0 || !slices.Equal(q, []int{1}) {
		t.Errorf("P3: Load(%.80x, %+v): time %d, queue %v, want 0 and the first task", text, c, m.Clock(), q)
	}
}

func wantFault(t *testing.T, text string, c api.Config, want api.Fault) {
	t.Helper()
	if m, f := turnstile.Load(text, c); m != nil || f != want {
		t.Errorf("P3: Load(%.80x, %+v): machine %v, fault %+v, want %+v", text, c, m != nil, f, want)
	}
}

func wantWrong(t *testing.T, text string, at int) {
	t.Helper()
	wantFault(t, text, plain, api.Fault{Code: api.ErrProgram, At: at})
}

// field is one number of a configuration, with the greatest that it may be.
type field struct {
	most int
	of   func(*api.Config) *int
}

var fields = []field{
	{200, func(c *api.Config) *int { return &c.Cells }},
	{50, func(c *api.Config) *int { return &c.Quantum }},
	{50, func(c *api.Config) *int { return &c.Work }},
	{16, func(c *api.Config) *int { return &c.Tasks }},
}

func TestConfigBounds(t *testing.T) {
	for _, f := range fields {
		c := plain
		for _, n := range []int{1, 2, f.most - 1, f.most} {
			*f.of(&c) = n
			wantMachine(t, mixed, c)
		}
		for _, n := range []int{0, -1, f.most + 1, f.most + 256, 1 << 32, 1<<32 + 1, math.MaxInt, math.MinInt, math.MinInt + 1} {
			*f.of(&c) = n
			// The configuration comes ahead of all else, so the text may be anything.
			for _, text := range []string{mixed, "", "\x00", mixed + "\x00"} {
				wantFault(t, text, c, api.Fault{Code: api.ErrConfig})
			}
		}
	}
}

func TestConfigWhole(t *testing.T) {
	wantMachine(t, mixed, api.Config{Cells: 1, Quantum: 1, Work: 1, Tasks: 1})
	wantMachine(t, mixed, api.Config{Cells: 200, Quantum: 50, Work: 50, Tasks: 16})
	wantFault(t, mixed, api.Config{}, api.Fault{Code: api.ErrConfig})
	wantFault(t, mixed, api.Config{Cells: 201, Quantum: 51, Work: 51, Tasks: 17}, api.Fault{Code: api.ErrConfig})
}

func TestFunctionCount(t *testing.T) {
	for n := range 256 {
		text := string([]byte{byte(n)}) + strings.Repeat(idle, n)
		if 1 <= n && n <= 8 {
			wantMachine(t, text, plain)
			wantWrong(t, text+idle, len(text))
			wantWrong(t, text[:len(text)-len(idle)], len(text)-len(idle))
		} else {
			wantWrong(t, text, 0)
			wantWrong(t, text[:1], 0)
		}
	}
}

func TestRegisterCount(t *testing.T) {
	for n := range 256 {
		alone, second := program(function(n, yield)), program(idle, function(n, yield))
		if 2 <= n && n <= 8 {
			wantMachine(t, alone, plain)
			wantMachine(t, second, plain)
		} else {
			wantWrong(t, alone, 1)
			wantWrong(t, alone[:2], 1)
			wantWrong(t, second, 7)
		}
	}
}

func TestInstructionCount(t *testing.T) {
	for n := range 256 {
		alone := program(function(2, strings.Repeat(yield, n)))
		second := program(idle, function(2, strings.Repeat(yield, n)))
		if 1 <= n && n <= 200 {
			wantMachine(t, alone, plain)
			wantMachine(t, second, plain)
			wantWrong(t, alone+yield, len(alone))
			wantWrong(t, alone[:len(alone)-4], len(alone)-4)
		} else {
			wantWrong(t, alone, 2)
			wantWrong(t, alone[:3], 2)
			wantWrong(t, second, 8)
		}
	}
}

func TestGreatestProgram(t *testing.T) {
	greatest := program(slices.Repeat([]string{function(8, strings.Repeat(line(api.Jump, 0, 0, 200), 200))}, 8)...)
	wantMachine(t, greatest, plain)
	wantWrong(t, greatest+"\x00", len(greatest))
	wantWrong(t, greatest[:len(greatest)-1], len(greatest)-1)
}

// operands is the document's table: the kinds of a, b and c by the instruction's number.
var operands = strings.Fields("rkk rr- rrr rrr rrr rrr rrr -tt rtt rs- rrr rrr rfr rrr r-- rrr --- r-- rr- r-- r-- rr- r--")

func TestInstructionNumbers(t *testing.T) {
	if len(operands) != 23 || api.Instructions != 23 {
		t.Fatalf("the document has 23 instructions: %d, %d", len(operands), api.Instructions)
	}
	for op := range 256 {
		text := program(function(2, yield+line(op, 0, 0, 0)))
		if op < 23 {
			wantMachine(t, text, plain)
		} else {
			wantWrong(t, text, 7)
			wantWrong(t, text[:8], 7)
		}
	}
}

// allowed is how many bytes, from 0 on, an operand of a kind may be.
func allowed(kind byte, registers, functions int) int {
	return map[byte]int{'r': registers, 'f': functions, 's': 9, 'k': 256, '-': 1}[kind]
}

func TestOperandsOfOneByte(t *testing.T) {
	for op, row := range operands {
		for i := range row {
			if row[i] == 't' {
				continue
			}
			for _, registers := range []int{2, 5, 8} {
				for _, functions := range []int{1, 4, 8} {
					tryOperand(t, op, i, registers, functions)
				}
			}
		}
	}
}

// tryOperand lays each byte at one operand of an instruction in a program's last function, behind functions with fewer registers or more.
func tryOperand(t *testing.T, op, i, registers, functions int) {
	t.Helper()
	others := slices.Repeat([]string{function(10-registers, yield)}, functions-1)
	for n := range 256 {
		operand := [3]int{}
		operand[i] = n
		last := function(registers, yield+line(op, operand[0], operand[1], operand[2])+yield)
		text := program(append(others, last)...)
		at := len(text) - 2*api.BytesOfCode + 1 + i
		if n < allowed(operands[op][i], registers, functions) {
			wantMachine(t, text, plain)
		} else {
			wantWrong(t, text, at)
			wantWrong(t, text[:at+1], at)
		}
	}
}

func TestFirstWrongByteCounts(t *testing.T) {
	for op, row := range operands {
		wantWrong(t, program(function(2, line(op, 255, 255, 255)+"\xff")), 4)
		if row[1] != 'k' {
			wantWrong(t, program(function(2, line(op, 0, 255, 255)+"\xff")), 5)
		}
	}
	wantWrong(t, "\x00\x00\x00\xff", 0)
	wantWrong(t, "\x01\x00\x00\xff", 1)
	wantWrong(t, "\x01\x02\x00\xff", 2)
	wantWrong(t, "\x01\x02\x01\xff\xff\xff\xff", 3)
	wantWrong(t, program(function(2, line(api.Num, 1, 255, 255)))+"\xff\xff", 7)
}

func TestTargets(t *testing.T) {
	for _, op := range []int{api.Jump, api.Unless} {
		for _, n := range []int{1, 2, 3, 199, 200} {
			before := program(function(2, yield), function(2, strings.Repeat(yield, n-1)+line(op, 0, 0, 0)))
			before = before[:len(before)-2]
			for _, high := range []int{0, 1, 2, 128, 255} {
				for low := range 256 {
					text := before + string([]byte{byte(high), byte(low)})
					if high == 0 && low <= n {
						wantMachine(t, text, plain)
					} else {
						wantWrong(t, text, len(before))
					}
				}
			}
		}
	}
}

func TestTargetIsOfItsOwnFunction(t *testing.T) {
	long := function(2, strings.Repeat(yield, 9))
	jump := function(2, line(api.Jump, 0, 0, 1))
	beyond := function(2, line(api.Jump, 0, 0, 2))
	wantMachine(t, program(long, jump, long), plain)
	wantWrong(t, program(long, beyond, long), 1+38+4)
	wantMachine(t, program(jump, function(2, line(api.Jump, 0, 0, 9)+strings.Repeat(yield, 8))), plain)
}

// A t of which one byte is there is not looked at: the other one is missing.
func TestTargetWithoutItsSecondByte(t *testing.T) {
	for high := range 256 {
		wantWrong(t, "\x01\x02\x01\x07\x00"+string([]byte{byte(high)}), 6)
		wantWrong(t, "\x01\x02\x01\x08\x01"+string([]byte{byte(high)}), 6)
	}
	wantWrong(t, "\x01\x02\x01\x07\x01\xff", 4)
	wantWrong(t, "\x01\x02\x01\x08\x02", 4)
}

func TestMissingBytes(t *testing.T) {
	wantMachine(t, mixed, plain)
	for n := range len(mixed) {
		wantWrong(t, mixed[:n], n)
	}
}

func TestBytesLeftOver(t *testing.T) {
	for b := range 256 {
		wantWrong(t, mixed+string([]byte{byte(b)}), len(mixed))
	}
	wantWrong(t, mixed+mixed, len(mixed))
	wantWrong(t, mixed+strings.Repeat("\x00", 1<<20), len(mixed))
}

func TestWrongTexts(t *testing.T) {
	for _, c := range []struct {
		text string
		at   int
	}{
		{"", 0}, {"1", 0}, {"turnstile", 0}, {"\xff\xfe", 0}, {"\x01é", 1}, {strings.Repeat("\x00", 1<<20), 0},
		{strings.Repeat("\x02", 1<<20), 4}, {strings.Repeat("\x01", 100), 1}, {"\x01\x02\x00", 2}, {"\x08\x08\x08\x08", 4},
	} {
		wantWrong(t, c.text, c.at)
	}
}

// A fault's place does not hang on what is behind it: up to there bytes are merely missing.
func TestAnyBytes(t *testing.T) {
	random := rand.New(rand.NewSource(1))
	for range 20000 {
		text := []byte(mixed)[:random.Intn(len(mixed)+1)]
		for range random.Intn(4) {
			text = append(text, byte(random.Intn(256)))
		}
		for range random.Intn(3) {
			if len(text) > 0 {
				text[random.Intn(len(text))] = byte(random.Intn(10))
			}
		}
		checkPlace(t, string(text))
	}
}

func checkPlace(t *testing.T, text string) {
	t.Helper()
	m, f := turnstile.Load(text, plain)
	if m != nil {
		wantMachine(t, text, plain)
		return
	}
	if f.Code != api.ErrProgram || f.At < 0 || f.At > len(text) {
		t.Fatalf("P3: Load(%x): fault %+v", text, f)
	}
	wantBefore(t, text, f.At)
}

// wantBefore looks at what is ahead of a fault: bytes are missing there, unless it is a whole program, and the rest is left over.
func wantBefore(t *testing.T, text string, at int) {
	t.Helper()
	m, f := turnstile.Load(text[:at], plain)
	if m == nil && f != (api.Fault{Code: api.ErrProgram, At: at}) {
		t.Errorf("P3: Load(%x) is wrong at %d, but its beginning %+v", text, at, f)
	}
}

func FuzzLoad(f *testing.F) {
	f.Add(mixed, 1, 1, 1, 1)
	f.Add("", 200, 50, 50, 16)
	f.Add("\x01\x02\x01\x07\x00\x01", 0, -1, 51, 17)
	f.Fuzz(func(t *testing.T, text string, cells, quantum, work, tasks int) {
		checkPlace(t, text)
		turnstile.Load(text, api.Config{Cells: cells, Quantum: quantum, Work: work, Tasks: tasks})
	})
}
