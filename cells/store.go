package cells

import (
	"slices"

	"turnstile/api"
)

// kind tells what lies at a place.
type kind byte

const (
	free kind = iota
	slotted
	function
)

// cell is what lies at a place: nothing, a cell with slots, or a function cell.
type cell struct {
	kind     kind
	function int     // of a function cell
	values   []Value // the slots, or the one value that a function cell has caught
}

func (c cell) isFree() bool { return c.kind == free }

// Store is the places of a machine's cells.
type Store struct {
	places []cell
	roots  func(visit func(Value))
	cycle  *cycle // the one that is going on, if one is
	counts api.Counts
}

// New is a store of n places, all of them free. The function roots visits each value from which cells can be reached.
func New(n int, roots func(visit func(Value))) *Store {
	return &Store{places: make([]cell, n), roots: roots}
}

// NewSlots is a new cell with n slots; false, if all places have cells that can be reached.
func (s *Store) NewSlots(n int) (Value, bool) {
	return s.lay(cell{kind: slotted, values: make([]Value, n)})
}

// NewFunction is a new function cell; false, if all places have cells that can be reached.
func (s *Store) NewFunction(f int, caught Value) (Value, bool) {
	return s.lay(cell{kind: function, function: f, values: []Value{caught}})
}

// Slots tells how many slots a cell has; false of all but cells with slots.
func (s *Store) Slots(v Value) (int, bool) {
	c := s.cellOf(v)
	if c.kind != slotted {
		return 0, false
	}
	return len(c.values), true
}

// Slot gives what is in a slot, which the cell must have.
func (s *Store) Slot(v Value, n int) Value { return s.places[v.place()].values[n] }

// SetSlot writes into a slot, which the cell must have. What was there could perhaps be reached through this slot alone when the cycle began: the cycle is told of it, while it can be.
func (s *Store) SetSlot(v Value, n int, to Value) {
	slot := &s.places[v.place()].values[n]
	if s.cycle != nil {
		s.cycle.reach(*slot)
	}
	*slot = to
}

// Function gives the function of a function cell and what it has caught; false of all others.
func (s *Store) Function(v Value) (f int, caught Value, ok bool) {
	c := s.cellOf(v)
	if c.kind != function {
		return 0, Value{}, false
	}
	return c.function, c.values[0], true
}

// Occupied tells how many places are not free.
func (s *Store) Occupied() int {
	n := 0
	for _, c := range s.places {
		if !c.isFree() {
			n++
		}
	}
	return n
}

// Counts tells what the collector has done.
func (s *Store) Counts() api.Counts { return s.counts }

// cellOf is what a value stands for; a number stands for nothing, as a free place does.
func (s *Store) cellOf(v Value) cell {
	if !v.isCell() {
		return cell{}
	}
	return s.places[v.place()]
}

// lay lays a cell at a free place; if there is none, a forced collection goes ahead.
func (s *Store) lay(c cell) (Value, bool) {
	place := s.freePlace()
	if place < 0 {
		s.force()
		place = s.freePlace()
	}
	if place < 0 {
		return Value{}, false
	}
	s.places[place] = c
	v := at(place)
	if s.cycle != nil {
		s.cycle.keep(v)
	}
	return v, true
}

func (s *Store) freePlace() int { return slices.IndexFunc(s.places, cell.isFree) }
