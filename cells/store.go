package cells

import "slices"

// kind tells what lies at a place.
type kind byte

const (
	free kind = iota
	slotted
	function
)

// cell is what lies at a place: nothing, a cell with slots, or a function cell.
type cell struct {
	kind     kind
	function int     // of a function cell
	values   []Value // the slots, or the one value that a function cell has caught
}

func (c cell) isFree() bool { return c.kind == free }

// Store is the places of a machine's cells.
type Store struct {
	places []cell
	roots  func(visit func(Value))
}

// New is a store of n places, all of them free. The function roots visits each value from which cells can be reached.
func New(n int, roots func(visit func(Value))) *Store {
	return &Store{places: make([]cell, n), roots: roots}
}

// NewSlots is a new cell with n slots; false, if all places have cells that can be reached.
func (s *Store) NewSlots(n int) (Value, bool) {
	return s.lay(cell{kind: slotted, values: make([]Value, n)})
}

// NewFunction is a new function cell; false, if all places have cells that can be reached.
func (s *Store) NewFunction(f int, caught Value) (Value, bool) {
	return s.lay(cell{kind: function, function: f, values: []Value{caught}})
}

// Slots gives the slots of a cell: what is stored into the list is in the cell. It is false of all but cells with slots.
func (s *Store) Slots(v Value) ([]Value, bool) {
	c := s.at(v)
	if c.kind != slotted {
		return nil, false
	}
	return c.values, true
}

// Function gives the function of a function cell and what it has caught; false of all others.
func (s *Store) Function(v Value) (f int, caught Value, ok bool) {
	c := s.at(v)
	if c.kind != function {
		return 0, Value{}, false
	}
	return c.function, c.values[0], true
}

// at is what a value stands for; a number stands for nothing, as a free place does.
func (s *Store) at(v Value) cell {
	if v.cell == 0 {
		return cell{}
	}
	return s.places[v.cell-1]
}

// lay lays a cell at a free place; if there is none, a forced collection goes ahead.
func (s *Store) lay(c cell) (Value, bool) {
	place := s.freePlace()
	if place < 0 {
		s.collect()
		place = s.freePlace()
	}
	if place < 0 {
		return Value{}, false
	}
	s.places[place] = c
	return Value{cell: place + 1}, true
}

func (s *Store) freePlace() int { return slices.IndexFunc(s.places, cell.isFree) }
