package cells

import (
	"math"
	"testing"
)

// holder is what lets cells be reached in these tests.
type holder struct {
	held  []Value
	asked int // how often
}

func (h *holder) visit(visit func(Value)) {
	h.asked++
	for _, v := range h.held {
		visit(v)
	}
}

func slots(t *testing.T, s *Store, n int) Value {
	t.Helper()
	v, ok := s.NewSlots(n)
	if !ok {
		t.Fatalf("P9: no cell with %d slots", n)
	}
	return v
}

func wantSlot(t *testing.T, s *Store, v Value, n int, want Value) {
	t.Helper()
	if got := s.Slot(v, n); got != want {
		t.Errorf("P4: the slot %d of %+v is %+v, want %+v", n, v, got, want)
	}
}

func wantNone(t *testing.T, s *Store) {
	t.Helper()
	if v, ok := s.NewSlots(0); ok || v != (Value{}) {
		t.Errorf("P9: a new cell %+v, %v, though all can be reached", v, ok)
	}
	if v, ok := s.NewFunction(0, Number(0)); ok || v != (Value{}) {
		t.Errorf("P9: a new function cell %+v, %v, though all can be reached", v, ok)
	}
}

func TestNumbers(t *testing.T) {
	if (Value{}) != Number(0) {
		t.Error("P4: what nothing was stored into is not the number 0")
	}
	for _, n := range []int64{0, 1, -1, 200, math.MaxInt64, math.MinInt64} {
		if got, ok := Number(n).Number(); got != n || !ok {
			t.Errorf("P4: the number %d is %d, %v", n, got, ok)
		}
		if Number(n) != Number(n) || Number(n) == Number(n+1) {
			t.Errorf("P4: the number %d against itself and the next", n)
		}
	}
}

func TestNumbersAreNoCells(t *testing.T) {
	h := &holder{}
	s := New(2, h.visit)
	h.held = []Value{slots(t, s, 1)}
	for _, n := range []int64{0, 1, 2, 3, -1, math.MaxInt64, math.MinInt64} {
		if has, ok := s.Slots(Number(n)); ok || has != 0 {
			t.Errorf("P4: the number %d has %d slots", n, has)
		}
		if f, caught, ok := s.Function(Number(n)); f != 0 || caught != (Value{}) || ok {
			t.Errorf("P4: the number %d is a function cell: %d, %+v, %v", n, f, caught, ok)
		}
		if h.held[0] == Number(n) {
			t.Errorf("P4: a cell is the number %d", n)
		}
	}
	if n, ok := h.held[0].Number(); n != 0 || ok {
		t.Errorf("P4: a cell is the number %d, %v", n, ok)
	}
}

func TestSlots(t *testing.T) {
	h := &holder{}
	s := New(20, h.visit)
	for n := range 9 {
		v := slots(t, s, n)
		h.held = append(h.held, v)
		if has, ok := s.Slots(v); !ok || has != n {
			t.Fatalf("P4: a cell with %d slots has %d, %v", n, has, ok)
		}
		for i := range n {
			wantSlot(t, s, v, i, Number(0))
			s.SetSlot(v, i, Number(int64(10*n+i)))
		}
		if _, _, ok := s.Function(v); ok {
			t.Errorf("P4: a cell with %d slots is a function cell", n)
		}
	}
	for n, v := range h.held {
		for i := range n {
			wantSlot(t, s, v, i, Number(int64(10*n+i)))
		}
	}
}

func TestFunctionCells(t *testing.T) {
	h := &holder{}
	s := New(20, h.visit)
	caught := Number(-7)
	for f := range 8 {
		v, ok := s.NewFunction(f, caught)
		if !ok {
			t.Fatalf("P9: no function cell %d", f)
		}
		h.held = append(h.held, v)
		got, value, ok := s.Function(v)
		if got != f || value != caught || !ok {
			t.Errorf("P4: the function cell %d with %+v is %d with %+v, %v", f, caught, got, value, ok)
		}
		if n, ok := s.Slots(v); ok || n != 0 {
			t.Errorf("P4: a function cell has %d slots", n)
		}
		caught = v
	}
}

func TestCellsAreToldApart(t *testing.T) {
	h := &holder{}
	s := New(9, h.visit)
	for range 9 {
		h.held = append(h.held, slots(t, s, 2))
	}
	for i, v := range h.held {
		for j, w := range h.held {
			if (v == w) != (i == j) {
				t.Errorf("P4: cells %d and %d: %v", i, j, v == w)
			}
		}
	}
}

// A collection is forced only if no place is free, and then one is enough.
func TestForcedCollections(t *testing.T) {
	h := &holder{}
	s := New(4, h.visit)
	for n := range 41 {
		if n%4 == 0 {
			h.held = nil
		}
		h.held = append(h.held, slots(t, s, 0))
		if h.asked != n/4 {
			t.Errorf("P9: %d collections for %d cells in 4 places", h.asked, n+1)
		}
	}
}

func TestAllThatAreReachedStay(t *testing.T) {
	for _, n := range []int{1, 2, 3, 199, 200} {
		h := &holder{}
		s := New(n, h.visit)
		for range n {
			h.held = append(h.held, slots(t, s, 1))
		}
		wantNone(t, s)
		wantNone(t, s)
		h.held[0] = Number(1)
		h.held[0] = slots(t, s, 1)
		wantNone(t, s)
	}
}

// A chain is reached through slots and through what was caught; without its first cell nothing of it is.
func TestChains(t *testing.T) {
	const n = 50
	h := &holder{}
	s := New(n, h.visit)
	first := Number(42)
	for i := range n {
		next := first
		if i%2 == 0 {
			first, _ = s.NewFunction(i%8, next)
		} else {
			first = slots(t, s, 8)
			s.SetSlot(first, i%8, next)
		}
		h.held = []Value{Number(3), first, first}
	}
	wantNone(t, s)
	h.held = nil
	for range n {
		h.held = append(h.held, slots(t, s, 0))
	}
	wantNone(t, s)
}

func TestRings(t *testing.T) {
	h := &holder{}
	s := New(4, h.visit)
	for range 30 {
		one, two := slots(t, s, 1), slots(t, s, 1)
		s.SetSlot(one, 0, two)
		s.SetSlot(two, 0, one)
		self := slots(t, s, 1)
		s.SetSlot(self, 0, self)
		h.held = []Value{one, self}
		h.held = append(h.held, slots(t, s, 0))
		wantNone(t, s)
		h.held = nil
	}
}

// A collection leaves what is in the cells that stay as it is.
func TestWhatStaysIsNotChanged(t *testing.T) {
	h := &holder{}
	s := New(3, h.visit)
	kept := slots(t, s, 2)
	function, _ := s.NewFunction(5, kept)
	h.held = []Value{function}
	s.SetSlot(kept, 1, Number(-9))
	for range 10 {
		slots(t, s, 8)
	}
	f, caught, ok := s.Function(function)
	if n, isCell := s.Slots(caught); f != 5 || caught != kept || !ok || !isCell || n != 2 {
		t.Fatalf("P9: the function cell is %d with %+v, and that has %d slots", f, caught, n)
	}
	wantSlot(t, s, kept, 0, Number(0))
	wantSlot(t, s, kept, 1, Number(-9))
}

// A new cell has nothing of the one that lay at its place.
func TestPlacesAreTakenAnew(t *testing.T) {
	h := &holder{}
	s := New(1, h.visit)
	for range 5 {
		v := slots(t, s, 8)
		for i := range 8 {
			wantSlot(t, s, v, i, Number(0))
			s.SetSlot(v, i, Number(77))
		}
		f, _ := s.NewFunction(3, Number(6))
		if got, caught, ok := s.Function(f); got != 3 || caught != Number(6) || !ok {
			t.Fatalf("P4: a new function cell is %d with %+v, %v", got, caught, ok)
		}
	}
}

func TestStoresAreApart(t *testing.T) {
	h := &holder{}
	one, two := New(1, h.visit), New(1, h.visit)
	v, w := slots(t, one, 1), slots(t, two, 1)
	one.SetSlot(v, 0, Number(5))
	wantSlot(t, two, w, 0, Number(0))
}
