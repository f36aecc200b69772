package turnstile_test

import (
	"cmp"
	"math"
	"slices"

	"turnstile/api"
)

// model is the document's machine, told as plainly as can be. There are no lists to stand in: a task knows where it is and since when, and who comes first is found out by looking at all. If a cell may be had is found out by counting those that can be reached; which are free is told by the model's collector.
type model struct {
	config    api.Config
	functions []modelFunction
	tasks     []*modelTask
	running   *modelTask
	sockets   [4][]byte
	spent     bool
	clock     int64
	moves     int
	collector modelCollector
	events    []api.Event
}

type modelFunction struct {
	registers int
	code      [][4]byte
}

type modelTask struct {
	number  int
	calls   []*modelCall
	where   where
	since   int   // the move with which it went there
	until   int64 // if it sleeps
	at      int64 // the socket at which it reads, or the task that it awaits
	into    *any  // what gets what it waits for
	outcome any
}

type where int

const (
	queued where = iota
	runs
	sleeps
	reads
	awaits
	gone
)

type modelCall struct {
	function  int
	next      int
	registers []any // each an int64 or a *modelCell
}

type modelCell struct {
	callable bool
	function int
	values   []any
}

func newModel(text string, c api.Config) *model {
	m := &model{config: c, collector: modelCollector{places: make([]*modelCell, c.Cells)}}
	rest := text[1:]
	for range text[0] {
		f := modelFunction{registers: int(rest[0])}
		n := int(rest[1])
		for i := range n {
			f.code = append(f.code, [4]byte([]byte(rest[2+4*i:6+4*i])))
		}
		m.functions = append(m.functions, f)
		rest = rest[2+4*n:]
	}
	m.begin(0, int64(0), int64(0))
	return m
}

func (m *model) begin(function int, argument, caught any) int64 {
	t := &modelTask{number: len(m.tasks) + 1}
	m.tasks = append(m.tasks, t)
	m.enter(t, function, argument, caught)
	m.move(t, queued)
	return int64(t.number)
}

func (m *model) enter(t *modelTask, function int, argument, caught any) {
	registers := slices.Repeat([]any{int64(0)}, m.functions[function].registers)
	registers[0], registers[1] = argument, caught
	t.calls = append(t.calls, &modelCall{function: function, registers: registers})
}

func (m *model) move(t *modelTask, to where) {
	m.moves++
	t.where, t.since = to, m.moves
}

// those are the tasks that are somewhere, the one first that has been there longest.
func (m *model) those(at where, also func(*modelTask) bool) []*modelTask {
	var found []*modelTask
	for _, t := range m.tasks {
		if t.where == at && also(t) {
			found = append(found, t)
		}
	}
	slices.SortFunc(found, func(s, t *modelTask) int { return s.since - t.since })
	return found
}

func anyTask(*modelTask) bool { return true }

func (m *model) living() int { return len(m.tasks) - len(m.those(gone, anyTask)) }

func (m *model) turn(ticks int64, in []api.Input) []api.Event {
	m.events = nil
	idle := m.spent || m.living() == 0
	if ticks > 0 {
		m.clock += ticks
		if m.clock < 0 {
			m.clock = math.MaxInt64
		}
	}
	for _, i := range in {
		m.receive(i)
	}
	if idle {
		return nil
	}
	sleepers := m.those(sleeps, func(t *modelTask) bool { return t.until <= m.clock })
	slices.SortStableFunc(sleepers, func(s, t *modelTask) int { return cmp.Compare(s.until, t.until) })
	for _, t := range sleepers {
		m.move(t, queued)
	}
	if queue := m.those(queued, anyTask); len(queue) > 0 {
		m.run(queue[0])
	}
	m.collect()
	return m.events
}

func (m *model) receive(i api.Input) {
	if i.Socket < 0 || i.Socket > 3 {
		return
	}
	readers := m.those(reads, func(t *modelTask) bool { return t.at == int64(i.Socket) })
	if len(readers) > 0 {
		*readers[0].into = int64(i.Byte)
		m.move(readers[0], queued)
	} else if len(m.sockets[i.Socket]) < 64 {
		m.sockets[i.Socket] = append(m.sockets[i.Socket], i.Byte)
	}
}

func (m *model) run(t *modelTask) {
	m.running = t
	m.move(t, runs)
	for n := 0; n < m.config.Quantum && t.where == runs && !m.spent; n++ {
		for t.where == runs && m.top().next == len(m.functions[m.top().function].code) {
			m.back(int64(0))
		}
		if t.where == runs {
			m.one()
		}
	}
	if t.where == runs && !m.spent {
		m.move(t, queued)
	}
}

func (m *model) top() *modelCall { return m.running.calls[len(m.running.calls)-1] }

func (m *model) tell(kind int, n int64) {
	m.events = append(m.events, api.Event{Kind: kind, Task: m.running.number, N: n})
}

// over is how a task's life is over.
func (m *model) over(t *modelTask, kind int, n int64, outcome any) {
	t.where, t.outcome = gone, outcome
	m.events = append(m.events, api.Event{Kind: kind, Task: t.number, N: n})
	for _, other := range m.those(awaits, func(o *modelTask) bool { return o.at == int64(t.number) }) {
		*other.into = outcome
		m.move(other, queued)
	}
}

func (m *model) fail(why int64) { m.over(m.running, api.Failed, why, -why) }

// back lets the function that was called last give a value. The Call that it comes back to is the one ahead of where the caller goes on.
func (m *model) back(v any) {
	t := m.running
	t.calls = t.calls[:len(t.calls)-1]
	if len(t.calls) == 0 {
		n, _ := v.(int64)
		m.over(t, api.Ended, n, v)
		return
	}
	caller := m.top()
	caller.registers[m.functions[caller.function].code[caller.next-1][1]] = v
}

// fresh is a new cell in register a, if there is room for one.
func (m *model) fresh(a *any, c *modelCell) {
	m.makeRoom()
	if len(m.reached()) == m.config.Cells {
		m.spent = true
		m.tell(api.Memory, 0)
		return
	}
	m.collector.lay(c)
	*a = c
}

// reached are the cells that can be reached.
func (m *model) reached() map[*modelCell]int {
	seen := map[*modelCell]int{}
	var look func(values []any)
	look = func(values []any) {
		for _, v := range values {
			if c, ok := v.(*modelCell); ok && seen[c] == 0 {
				seen[c] = 1
				look(c.values)
			}
		}
	}
	for _, t := range m.tasks {
		if t.where == gone {
			look([]any{t.outcome})
			continue
		}
		for _, c := range t.calls {
			look(c.registers)
		}
	}
	return seen
}

// one runs an instruction.
func (m *model) one() {
	f := m.top()
	i := m.functions[f.function].code[f.next]
	f.next++
	register := func(n int) *any { return &f.registers[min(int(i[n]), len(f.registers)-1)] }
	a, b, c := register(1), register(2), register(3)
	pair := int(i[2])<<8 | int(i[3])
	switch i[0] {
	case api.Num:
		*a = int64(int16(pair))
	case api.Move:
		*a = *b
	case api.Add, api.Sub, api.Mul, api.Less:
		m.sum(i[0], a, *b, *c)
	case api.Same:
		*a = map[bool]int64{true: 1}[*b == *c]
	case api.Jump:
		f.next = pair
	case api.Unless:
		if *a == any(int64(0)) {
			f.next = pair
		}
	case api.Cell:
		m.fresh(a, &modelCell{values: slices.Repeat([]any{int64(0)}, int(i[2]))})
	case api.Get:
		if slot := m.slot(*b, *c); slot != nil {
			*a = *slot
		}
	case api.Put:
		if slot := m.slot(*a, *b); slot != nil {
			*slot = *c
		}
	case api.Func:
		m.fresh(a, &modelCell{callable: true, function: int(i[2]), values: []any{*c}})
	case api.Call:
		m.call(*b, *c)
	case api.Return:
		m.back(*a)
	case api.Spawn:
		m.spawn(a, *b, *c)
	case api.Yield:
		m.move(m.running, queued)
	case api.Now:
		*a = m.clock
	case api.Sleep, api.Cancel, api.Emit:
		m.withNumber(i[0], nil, *a)
	case api.Await, api.Read:
		m.withNumber(i[0], a, *b)
	}
}

func (m *model) spawn(a *any, function, argument any) {
	c, ok := function.(*modelCell)
	switch {
	case !ok || !c.callable:
		m.fail(api.BadFunction)
	case m.living() == m.config.Tasks:
		m.fail(api.TooMany)
	default:
		*a = m.begin(c.function, argument, c.values[0])
	}
}

func (m *model) withNumber(op byte, a *any, v any) {
	n, ok := v.(int64)
	isTask := n >= 1 && n <= int64(len(m.tasks))
	switch {
	case !ok:
		m.fail(api.BadNumber)
	case op == api.Emit:
		m.tell(api.Emitted, n)
	case op == api.Sleep:
		m.sleep(n)
	case op == api.Read:
		m.read(a, n)
	case !isTask || op == api.Await && n == int64(m.running.number):
		m.fail(api.NoTask)
	case op == api.Await:
		m.await(a, m.tasks[n-1])
	case m.tasks[n-1].where != gone:
		m.over(m.tasks[n-1], api.Cancelled, 0, int64(-100))
	}
}

func (m *model) sleep(n int64) {
	until := m.clock + max(n, 0)
	if until < m.clock {
		until = math.MaxInt64
	}
	m.running.until = until
	m.move(m.running, sleeps)
}

func (m *model) read(a *any, n int64) {
	if n < 0 || n > 3 {
		m.fail(api.BadSocket)
	} else if bytes := m.sockets[n]; len(bytes) > 0 {
		*a = int64(bytes[0])
		m.sockets[n] = bytes[1:]
	} else {
		m.running.into, m.running.at = a, n
		m.move(m.running, reads)
	}
}

func (m *model) await(a *any, t *modelTask) {
	if t.where == gone {
		*a = t.outcome
	} else {
		m.running.into, m.running.at = a, int64(t.number)
		m.move(m.running, awaits)
	}
}

func (m *model) sum(op byte, a *any, b, c any) {
	x, isX := b.(int64)
	y, isY := c.(int64)
	switch {
	case !isX || !isY:
		m.fail(api.BadNumber)
	case op == api.Add:
		*a = x + y
	case op == api.Sub:
		*a = x - y
	case op == api.Mul:
		*a = x * y
	case x < y:
		*a = int64(1)
	default:
		*a = int64(0)
	}
}

func (m *model) slot(cell, index any) *any {
	c, isCell := cell.(*modelCell)
	n, isNumber := index.(int64)
	switch {
	case !isCell || c.callable:
		m.fail(api.BadCell)
	case !isNumber:
		m.fail(api.BadNumber)
	case n < 0 || n >= int64(len(c.values)):
		m.fail(api.BadIndex)
	default:
		return &c.values[n]
	}
	return nil
}

func (m *model) call(function, argument any) {
	c, ok := function.(*modelCell)
	switch {
	case !ok || !c.callable:
		m.fail(api.BadFunction)
	case len(m.running.calls) == 20:
		m.fail(api.TooDeep)
	default:
		m.enter(m.running, c.function, argument, c.values[0])
	}
}

func (m *model) state() (int, []int) {
	var queue []int
	for _, t := range m.those(queued, anyTask) {
		queue = append(queue, t.number)
	}
	switch {
	case m.spent:
		return api.Spent, queue
	case m.living() == 0:
		return api.Finished, queue
	case len(queue) > 0:
		return api.Running, queue
	case len(m.those(sleeps, anyTask))+len(m.those(reads, anyTask)) > 0:
		return api.Waiting, queue
	}
	return api.Stuck, queue
}
