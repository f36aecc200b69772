package turnstile_test

import (
	"testing"

	"turnstile/api"
)

// Behind things: 2 is the number 0, 3 the number 1, 4 a cell with one slot, 5 a cell without slots, 6 a function cell.
var things = num(3, 1) + cell(4, 1) + cell(5, 0) + caught(6, 0, 0)

const (
	zero = 2 + iota
	one
	slotted
	bare
	callable
)

func wantFailure(t *testing.T, what, code string, why int) {
	t.Helper()
	wantAll(t, what, things+code+emit(zero)+giveBack(one), failed(why))
}

func wantSuccess(t *testing.T, what, code string, want ...api.Event) {
	t.Helper()
	wantAll(t, what, things+code+giveBack(one), append(want, ended(1))...)
}

func TestBadNumberOfSums(t *testing.T) {
	for _, op := range []int{api.Add, api.Sub, api.Mul, api.Less} {
		for _, c := range []int{slotted, bare, callable} {
			wantFailure(t, "b is a cell", of(op, 7, c, one), api.BadNumber)
			wantFailure(t, "c is a cell", of(op, 7, one, c), api.BadNumber)
			wantFailure(t, "both are cells", of(op, 7, c, c), api.BadNumber)
			wantFailure(t, "two kinds of cells", of(op, 7, c, slotted), api.BadNumber)
			// What a was does not count.
			wantSuccess(t, "a was a cell", of(op, c, one, zero))
		}
	}
}

func TestBadNumberOfEmit(t *testing.T) {
	for _, c := range []int{slotted, bare, callable} {
		wantFailure(t, "Emit of a cell", emit(c), api.BadNumber)
	}
	wantSuccess(t, "Emit of a number", emit(zero), emitted(0))
}

// BadCell is ahead of BadNumber here, and that ahead of BadIndex.
func TestOrderOfSlots(t *testing.T) {
	wantSuccess(t, "Get", get(7, slotted, zero))
	wantSuccess(t, "Put", put(slotted, zero, callable))
	for _, c := range []int{zero, one, callable} {
		for _, index := range []int{zero, one, slotted, bare, callable} {
			wantFailure(t, "Get of no cell with slots", get(7, c, index), api.BadCell)
			wantFailure(t, "Put into no cell with slots", put(c, index, zero), api.BadCell)
		}
	}
	for _, c := range []int{slotted, bare} {
		for _, index := range []int{slotted, bare, callable} {
			wantFailure(t, "Get at a cell", get(7, c, index), api.BadNumber)
			wantFailure(t, "Put at a cell", put(c, index, zero), api.BadNumber)
		}
		wantFailure(t, "Get beyond the last slot", get(7, c, one), api.BadIndex)
		wantFailure(t, "Put beyond the last slot", put(c, one, zero), api.BadIndex)
	}
	wantFailure(t, "Get of a cell without slots", get(7, bare, zero), api.BadIndex)
	wantFailure(t, "Put into a cell without slots", put(bare, zero, zero), api.BadIndex)
}

func TestBadFunction(t *testing.T) {
	for _, b := range []int{zero, one, slotted, bare} {
		for _, c := range []int{zero, slotted, callable} {
			wantFailure(t, "Call of no function cell", call(7, b, c), api.BadFunction)
		}
	}
}

// In the 20th function, what is no function cell is looked at ahead of how deep it is.
func TestBadFunctionIsAheadOfTooDeep(t *testing.T) {
	main := cell(2, 1) + caught(3, 1, 2) + put(2, 0, 3) + num(4, 18) + call(5, 3, 4)
	down := func(last int) string {
		return num(3, 1) + unless(0, 5) + of(api.Sub, 0, 0, 3) + get(4, 1, 2) + call(5, 4, 0) + get(4, 1, 2) + call(5, last, 0)
	}
	for _, c := range []struct{ called, why int }{{4, api.TooDeep}, {1, api.BadFunction}, {2, api.BadFunction}} {
		m := load(t, program(function(6, main), function(6, down(c.called))), config(2, 50))
		var got []api.Event
		for range 10 {
			got = append(got, m.Turn(0, nil)...)
		}
		if len(got) != 1 || got[0] != failed(c.why) {
			t.Errorf("P4: a call in the 20th function: %v, want %v", got, failed(c.why))
		}
	}
}

// Same, Unless, Move, Return, and what is caught or called with take all values.
func TestWhatCannotFail(t *testing.T) {
	for _, v := range []int{zero, one, slotted, bare, callable} {
		wantSuccess(t, "Move", move(7, v))
		wantSuccess(t, "Same", of(api.Same, 7, v, slotted))
		wantSuccess(t, "Unless", unless(v, len(things)/4+1))
		wantSuccess(t, "Func", caught(7, 0, v))
		wantSuccess(t, "Put", put(slotted, zero, v))
		for _, op := range []int{api.Num, api.Cell, api.Now} {
			wantSuccess(t, "a was anything", of(op, 7, 0, 0))
		}
	}
}

func TestFinishedMachinesDoNothing(t *testing.T) {
	for _, code := range []string{giveBack(0), num(0, 1), get(0, 0, 0)} {
		m := load(t, program(function(2, code)), plain)
		m.Turn(0, nil)
		m.Turn(0, nil)
		for range 5 {
			wantTurn(t, m, 1)
			wantState(t, m, api.Finished)
		}
		if m.Clock() != 5 {
			t.Errorf("P10: the time is %d, want 5", m.Clock())
		}
	}
}
