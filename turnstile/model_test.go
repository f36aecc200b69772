package turnstile_test

import (
	"math"
	"math/rand"
	"slices"
	"strings"
	"testing"

	"turnstile/api"
	"turnstile/turnstile"
)

// model is the document's machine of one task, told as plainly as can be: cells are never freed, but counted anew, as far as they can be reached, each time when one is asked for.
type model struct {
	config    api.Config
	functions []modelFunction
	calls     []*modelCall
	lives     bool
	spent     bool
	clock     int64
	events    []api.Event
}

type modelFunction struct {
	registers int
	code      [][4]byte
}

type modelCall struct {
	function  int
	next      int
	registers []any // each an int64 or a *modelCell
}

type modelCell struct {
	callable bool
	function int
	values   []any
}

func newModel(text string, c api.Config) *model {
	m := &model{config: c, lives: true}
	rest := text[1:]
	for range text[0] {
		f := modelFunction{registers: int(rest[0])}
		n := int(rest[1])
		for i := range n {
			f.code = append(f.code, [4]byte([]byte(rest[2+4*i:6+4*i])))
		}
		m.functions = append(m.functions, f)
		rest = rest[2+4*n:]
	}
	m.enter(0, int64(0), int64(0))
	return m
}

func (m *model) enter(function int, argument, caught any) {
	registers := slices.Repeat([]any{int64(0)}, m.functions[function].registers)
	registers[0], registers[1] = argument, caught
	m.calls = append(m.calls, &modelCall{function: function, registers: registers})
}

func (m *model) turn(ticks int64) []api.Event {
	m.events = nil
	if ticks > 0 {
		m.clock += ticks
		if m.clock < 0 {
			m.clock = math.MaxInt64
		}
	}
	for n := 0; n < m.config.Quantum && m.lives && !m.spent; n++ {
		for m.lives && m.top().next == len(m.functions[m.top().function].code) {
			m.back(int64(0))
		}
		if m.lives && m.one() {
			break
		}
	}
	return m.events
}

func (m *model) top() *modelCall { return m.calls[len(m.calls)-1] }

func (m *model) tell(kind int, n int64) {
	m.events = append(m.events, api.Event{Kind: kind, Task: 1, N: n})
}

func (m *model) fail(why int64) {
	m.lives = false
	m.tell(api.Failed, why)
}

// back lets the function that was called last give a value. The Call that it comes back to is the one ahead of where the caller goes on.
func (m *model) back(v any) {
	m.calls = m.calls[:len(m.calls)-1]
	if len(m.calls) == 0 {
		n, _ := v.(int64)
		m.lives = false
		m.tell(api.Ended, n)
		return
	}
	caller := m.top()
	caller.registers[m.functions[caller.function].code[caller.next-1][1]] = v
}

// fresh is a new cell in register a, if there is room for one.
func (m *model) fresh(a *any, c *modelCell) {
	if m.reachable() == m.config.Cells {
		m.spent = true
		m.tell(api.Memory, 0)
		return
	}
	*a = c
}

func (m *model) reachable() int {
	seen := map[*modelCell]int{}
	var look func(values []any)
	look = func(values []any) {
		for _, v := range values {
			if c, ok := v.(*modelCell); ok && seen[c] == 0 {
				seen[c] = 1
				look(c.values)
			}
		}
	}
	for _, c := range m.calls {
		look(c.registers)
	}
	return len(seen)
}

// one runs an instruction, and tells if it was a Yield.
func (m *model) one() bool {
	f := m.top()
	i := m.functions[f.function].code[f.next]
	f.next++
	register := func(n int) *any { return &f.registers[min(int(i[n]), len(f.registers)-1)] }
	a, b, c := register(1), register(2), register(3)
	pair := int(i[2])<<8 | int(i[3])
	switch i[0] {
	case api.Num:
		*a = int64(int16(pair))
	case api.Move:
		*a = *b
	case api.Add, api.Sub, api.Mul, api.Less:
		m.sum(i[0], a, *b, *c)
	case api.Same:
		*a = map[bool]int64{true: 1}[*b == *c]
	case api.Jump:
		f.next = pair
	case api.Unless:
		if *a == any(int64(0)) {
			f.next = pair
		}
	case api.Cell:
		m.fresh(a, &modelCell{values: slices.Repeat([]any{int64(0)}, int(i[2]))})
	case api.Get:
		if slot := m.slot(*b, *c); slot != nil {
			*a = *slot
		}
	case api.Put:
		if slot := m.slot(*a, *b); slot != nil {
			*slot = *c
		}
	case api.Func:
		m.fresh(a, &modelCell{callable: true, function: int(i[2]), values: []any{*c}})
	case api.Call:
		m.call(*b, *c)
	case api.Return:
		m.back(*a)
	case api.Yield:
		return true
	case api.Emit:
		if n, ok := (*a).(int64); ok {
			m.tell(api.Emitted, n)
		} else {
			m.fail(api.BadNumber)
		}
	case api.Now:
		*a = m.clock
	}
	return false
}

func (m *model) sum(op byte, a *any, b, c any) {
	x, isX := b.(int64)
	y, isY := c.(int64)
	switch {
	case !isX || !isY:
		m.fail(api.BadNumber)
	case op == api.Add:
		*a = x + y
	case op == api.Sub:
		*a = x - y
	case op == api.Mul:
		*a = x * y
	case x < y:
		*a = int64(1)
	default:
		*a = int64(0)
	}
}

func (m *model) slot(cell, index any) *any {
	c, isCell := cell.(*modelCell)
	n, isNumber := index.(int64)
	switch {
	case !isCell || c.callable:
		m.fail(api.BadCell)
	case !isNumber:
		m.fail(api.BadNumber)
	case n < 0 || n >= int64(len(c.values)):
		m.fail(api.BadIndex)
	default:
		return &c.values[n]
	}
	return nil
}

func (m *model) call(function, argument any) {
	c, ok := function.(*modelCell)
	switch {
	case !ok || !c.callable:
		m.fail(api.BadFunction)
	case len(m.calls) == 20:
		m.fail(api.TooDeep)
	default:
		m.enter(c.function, argument, c.values[0])
	}
}

func (m *model) state() (int, []int) {
	switch {
	case m.spent:
		return api.Spent, nil
	case !m.lives:
		return api.Finished, nil
	}
	return api.Running, []int{1}
}

// writer writes programs that often do something: by habit registers 2 and 3 have numbers, 4 and 5 cells with slots, 6 and 7 function cells.
type writer struct {
	*rand.Rand
	functions int
}

func (w writer) number() int   { return w.habit(2, 3) }
func (w writer) slotted() int  { return w.habit(4, 5) }
func (w writer) callable() int { return w.habit(6, 7) }
func (w writer) any() int      { return w.Intn(8) }

func (w writer) habit(one, other int) int {
	switch n := w.Intn(100); {
	case n < 50:
		return one
	case n < 98:
		return other
	}
	return w.any()
}

func (w writer) program() string {
	var functions []string
	for f := range w.functions {
		length := 7 + w.Intn(25)
		code := num(2, w.Intn(3)) + num(3, w.Intn(2)) + cell(4, 3+w.Intn(3)) + move(5, 4) + caught(6, min(f+1, w.functions-1), 4) + move(7, 6)
		for n := 6; n < length-1; n++ {
			code += w.instruction(f, length)
		}
		functions = append(functions, function(8, code+w.last(length)))
	}
	return program(functions...)
}

func (w writer) last(length int) string {
	if w.Intn(2) == 0 {
		return jump(w.Intn(length))
	}
	return giveBack(w.number())
}

func (w writer) instruction(f, length int) string {
	switch w.Intn(16) {
	case 0:
		return num(w.number(), w.Intn(4)-w.Intn(2))
	case 1:
		return of(api.Add+w.Intn(4), w.number(), w.number(), w.number())
	case 2:
		return of(api.Same, w.number(), w.any(), w.any())
	case 3:
		return unless(w.any(), w.Intn(length+1))
	case 4, 5:
		return cell(w.slotted(), w.Intn(9))
	case 6:
		return get(w.any(), w.slotted(), w.number())
	case 7, 8:
		return put(w.slotted(), w.number(), w.any())
	case 9:
		return caught(w.callable(), min(f+w.Intn(3), w.functions-1), w.any())
	case 10:
		return call(w.number(), w.callable(), w.any())
	case 11:
		return emit(w.number())
	case 12:
		return yield
	case 13:
		return now(w.number())
	case 14:
		return move(w.slotted(), w.slotted())
	}
	return w.rare(length)
}

func (w writer) rare(length int) string {
	switch w.Intn(4) {
	case 0:
		return move(w.any(), w.any())
	case 1:
		return giveBack(w.any())
	case 2:
		return jump(w.Intn(length + 1))
	}
	return num(w.any(), w.Intn(10))
}

// sameAsModel holds a machine against the model, turn by turn, and gives all events.
func sameAsModel(t *testing.T, text string, c api.Config, turns int, random *rand.Rand) []api.Event {
	t.Helper()
	m, right := load(t, text, c), newModel(text, c)
	var events []api.Event
	for n := range turns {
		ticks := random.Int63n(5) - 1
		got, want := m.Turn(ticks, []api.Input{{Socket: random.Intn(6) - 1}}), right.turn(ticks)
		state, queue := right.state()
		if !slices.Equal(got, want) {
			t.Fatalf("P4: %x, %+v: turn %d tells %v, want %v", text, c, n, got, want)
		}
		if m.State() != state || !slices.Equal(m.Queue(), queue) || m.Clock() != right.clock {
			t.Fatalf("P10: %x, %+v: turn %d: %d %v %d, want %d %v %d", text, c, n, m.State(), m.Queue(), m.Clock(), state, queue, right.clock)
		}
		events = append(events, got...)
	}
	return events
}

func anyConfig(random *rand.Rand) api.Config {
	most := []int{10, 40, 200}[random.Intn(3)]
	return api.Config{Cells: 1 + random.Intn(most), Quantum: 1 + random.Intn(50), Work: 1 + random.Intn(50), Tasks: 1 + random.Intn(16)}
}

func TestAnyProgramAgainstTheModel(t *testing.T) {
	random := rand.New(rand.NewSource(2))
	seen := map[[2]int64]int{}
	for range 6000 {
		w := writer{random, 1 + random.Intn(4)}
		for _, e := range sameAsModel(t, w.program(), anyConfig(random), 40, random) {
			if e.Kind == api.Emitted || e.Kind == api.Ended {
				e.N = 0
			}
			seen[[2]int64{int64(e.Kind), e.N}]++
		}
	}
	for _, k := range [][2]int64{{api.Emitted, 0}, {api.Ended, 0}, {api.Failed, 1}, {api.Failed, 2}, {api.Failed, 3}, {api.Failed, 4}, {api.Failed, 5}, {api.Memory, 0}} {
		if seen[k] < 20 {
			t.Errorf("the programs are too tame: %v came %d times, of %v", k, seen[k], seen)
		}
	}
}

// The same program with other numbers of cells and units: the events are the same up to Memory, turn by turn.
func TestAnyProgramWithFewerCells(t *testing.T) {
	random := rand.New(rand.NewSource(3))
	for range 300 {
		w := writer{random, 1 + random.Intn(4)}
		text, quantum := w.program(), 1+random.Intn(50)
		most := eventsByTurn(load(t, text, api.Config{Cells: 200, Quantum: quantum, Work: 50, Tasks: 16}))
		for _, cells := range []int{1, 2, 3, 5, 8, 13, 30, 100} {
			got := eventsByTurn(load(t, text, api.Config{Cells: cells, Quantum: quantum, Work: 1 + random.Intn(50), Tasks: 1}))
			wantUpToMemory(t, text, got, most)
		}
	}
}

func eventsByTurn(m *turnstile.Machine) [][]api.Event {
	var turns [][]api.Event
	for range 40 {
		turns = append(turns, m.Turn(1, nil))
	}
	return turns
}

func wantUpToMemory(t *testing.T, text string, got, most [][]api.Event) {
	t.Helper()
	for n := range got {
		at := slices.Index(got[n], memory)
		if at < 0 {
			if !slices.Equal(got[n], most[n]) {
				t.Fatalf("P8: %x: turn %d tells %v with fewer cells, and %v with more", text, n, got[n], most[n])
			}
			continue
		}
		if at > len(most[n]) || !slices.Equal(got[n][:at], most[n][:at]) || at != len(got[n])-1 {
			t.Fatalf("P8: %x: turn %d tells %v with fewer cells, and %v with more", text, n, got[n], most[n])
		}
		if left := slices.Concat(got[n+1:]...); len(left) > 0 {
			t.Fatalf("P9: %x: behind Memory come %v", text, left)
		}
		return
	}
}

// toCome are the instructions that the model does not know.
var toCome = []byte{api.Spawn, api.Sleep, api.Await, api.Cancel, api.Read}

func FuzzTurn(f *testing.F) {
	random := rand.New(rand.NewSource(4))
	for range 20 {
		f.Add(writer{random, 3}.program(), 5, 10)
	}
	f.Add(mixed, 1, 1)
	f.Add(program(function(8, strings.Repeat(caught(2, 0, 2)+call(2, 2, 2), 100))), 200, 50)
	f.Fuzz(func(t *testing.T, text string, cells, quantum int) {
		c := api.Config{Cells: cells, Quantum: quantum, Work: 1, Tasks: 1}
		if m, _ := turnstile.Load(text, c); m == nil {
			return
		}
		for _, f := range newModel(text, c).functions {
			for _, i := range f.code {
				if slices.Contains(toCome, i[0]) {
					return
				}
			}
		}
		sameAsModel(t, text, c, 30, rand.New(rand.NewSource(5)))
	})
}
