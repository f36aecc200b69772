package cells

import (
	"math/rand"
	"slices"
	"testing"

	"turnstile/api"
)

func wantCounts(t *testing.T, what string, s *Store, occupied int, want api.Counts) {
	t.Helper()
	if s.Occupied() != occupied || s.Counts() != want {
		t.Fatalf("P11: %s: %d cells, %+v, want %d, %+v", what, s.Occupied(), s.Counts(), occupied, want)
	}
}

// chained is a store of n places and a chain of so many cells with two slots, of which the first is held; the slot 0 of each has the next.
func chained(t *testing.T, n, length int) (*Store, *holder, []Value) {
	t.Helper()
	h := &holder{}
	s := New(n, h.visit)
	var chain []Value
	for i := range length {
		v := slots(t, s, 2)
		if i == 0 {
			h.held = []Value{v}
		} else {
			s.SetSlot(chain[i-1], 0, v)
		}
		chain = append(chain, v)
	}
	return s, h, chain
}

// toTheEnd works, a unit at a time, till a cycle has ended.
func toTheEnd(t *testing.T, s *Store) {
	t.Helper()
	cycles := s.Counts().Cycles
	for range 2 * len(s.places) {
		s.Work(1)
		if s.Counts().Cycles > cycles {
			return
		}
	}
	t.Fatalf("P11: the cycle does not end: %+v", s.Counts())
}

func TestNothingWasWorked(t *testing.T) {
	s, _, _ := chained(t, 5, 3)
	wantCounts(t, "a store without work", s, 3, api.Counts{})
	wantCounts(t, "an empty store", New(200, (&holder{}).visit), 0, api.Counts{})
}

// A cycle has a unit for each cell that can be reached, and one for each place; it ends behind the last, and so does the work.
func TestUnitsOfACycle(t *testing.T) {
	for _, n := range []int{1, 2, 3, 10, 199, 200} {
		for _, reached := range []int{0, 1, n / 2, n - 1, n} {
			for _, work := range []int{1, 2, 3, 7, reached + n - 1, reached + n, reached + n + 1, 1000} {
				s, h, _ := chained(t, n, reached)
				for s.Occupied() < n {
					slots(t, s, 1)
				}
				if reached == 0 {
					h.held = nil
				}
				want := api.Counts{}
				for cycle := range 3 {
					for left := reached + n; left > 0 && work > 0; left -= work {
						s.Work(work)
						want.Units += min(work, left)
						want.Cycles = cycle + oneIf(left <= work)
						if s.Counts() != want {
							t.Fatalf("P11: %d places, %d reached, work %d: %+v, want %+v", n, reached, work, s.Counts(), want)
						}
					}
					if work > 0 && s.Occupied() != reached {
						t.Fatalf("P11: %d places: %d cells behind a cycle, want %d", n, s.Occupied(), reached)
					}
				}
			}
		}
	}
}

func oneIf(so bool) int {
	if so {
		return 1
	}
	return 0
}

// Nothing is freed while marks are made; a place is free when it was looked at.
func TestFreedPlaceByPlace(t *testing.T) {
	s, _, _ := chained(t, 10, 4)
	for range 6 {
		slots(t, s, 0)
	}
	for n := range 4 + 4 {
		s.Work(1)
		wantCounts(t, "ahead of the first place that is let go", s, 10, api.Counts{Units: n + 1})
	}
	for n := range 6 {
		s.Work(1)
		wantCounts(t, "behind a place that is let go", s, 10-n-1, api.Counts{Units: 9 + n, Cycles: n / 5})
	}
}

// A cell that is held many times, or reached through many, is one unit.
func TestEachCellIsOneUnit(t *testing.T) {
	h := &holder{}
	s := New(6, h.visit)
	one, two := slots(t, s, 8), slots(t, s, 8)
	function, _ := s.NewFunction(0, one)
	for n := range 8 {
		s.SetSlot(one, n, two)
		s.SetSlot(two, n, []Value{one, two, function}[n%3])
	}
	for _, held := range [][]Value{{one}, {two}, {function}, {one, two, function, one, two, function}} {
		h.held = held
		before := s.Counts().Units
		toTheEnd(t, s)
		if got := s.Counts().Units - before; got != 9 || s.Occupied() != 3 {
			t.Errorf("P11: %d units and %d cells, want 9 and 3", got, s.Occupied())
		}
	}
}

// What is done with the third cell of a chain when so many units of the cycle were worked: it can be reached yet, or not, and the cycle's units are the same.
func TestChangesWhileACycleGoesOn(t *testing.T) {
	for _, c := range []struct {
		what   string
		change func(*testing.T, *Store, *holder, []Value)
		stay   int // cells that can be reached then
		stayed int // cells there are when the cycle has ended
	}{
		{"moved into a register", func(t *testing.T, s *Store, h *holder, l []Value) {
			h.held = append(h.held, l[2])
			s.SetSlot(l[1], 0, Number(0))
		}, 4, 4},
		{"let go", func(t *testing.T, s *Store, h *holder, l []Value) { s.SetSlot(l[1], 0, Number(1)) }, 2, 4},
		{"let go with all others", func(t *testing.T, s *Store, h *holder, l []Value) { h.held = nil }, 0, 4},
		{"moved into the first", func(t *testing.T, s *Store, h *holder, l []Value) {
			s.SetSlot(l[0], 1, l[2])
			s.SetSlot(l[1], 0, Number(0))
		}, 4, 4},
		{"moved into the first, in place of the second", func(t *testing.T, s *Store, h *holder, l []Value) {
			s.SetSlot(l[0], 0, l[2])
		}, 3, 4},
		{"moved within its cell", func(t *testing.T, s *Store, h *holder, l []Value) {
			s.SetSlot(l[1], 1, l[2])
			s.SetSlot(l[1], 0, Number(0))
		}, 4, 4},
		{"moved into a new cell", func(t *testing.T, s *Store, h *holder, l []Value) {
			v := slots(t, s, 1)
			h.held = append(h.held, v)
			s.SetSlot(v, 0, l[2])
			s.SetSlot(l[1], 0, Number(0))
		}, 5, 5},
		{"caught by a new function cell, in the first", func(t *testing.T, s *Store, h *holder, l []Value) {
			v, _ := s.NewFunction(0, l[2])
			s.SetSlot(l[0], 1, v)
			s.SetSlot(l[1], 0, Number(0))
		}, 5, 5},
		{"moved into a new cell and let go with it", func(t *testing.T, s *Store, h *holder, l []Value) {
			s.SetSlot(slots(t, s, 1), 0, l[2])
			s.SetSlot(l[1], 0, Number(0))
		}, 2, 5},
		{"moved into a new cell and out again", func(t *testing.T, s *Store, h *holder, l []Value) {
			v := slots(t, s, 1)
			s.SetSlot(v, 0, l[2])
			s.SetSlot(l[1], 0, Number(0))
			h.held = append(h.held, s.Slot(v, 0))
			s.SetSlot(v, 0, Number(0))
		}, 4, 5},
		{"turned round", func(t *testing.T, s *Store, h *holder, l []Value) {
			h.held = []Value{l[3]}
			s.SetSlot(l[3], 0, l[2])
			s.SetSlot(l[2], 0, l[1])
			s.SetSlot(l[1], 0, l[0])
			s.SetSlot(l[0], 0, Number(0))
		}, 4, 4},
		{"a new cell in the last", func(t *testing.T, s *Store, h *holder, l []Value) {
			s.SetSlot(l[3], 0, slots(t, s, 0))
		}, 5, 5},
		{"two new cells in the last, one in the other", func(t *testing.T, s *Store, h *holder, l []Value) {
			v := slots(t, s, 1)
			s.SetSlot(v, 0, slots(t, s, 0))
			s.SetSlot(l[3], 0, v)
		}, 6, 6},
		{"a new cell that is let go", func(t *testing.T, s *Store, h *holder, l []Value) { slots(t, s, 3) }, 4, 5},
	} {
		// The chain of four in ten places: fourteen units.
		for units := 1; units <= 13; units++ {
			s, h, chain := chained(t, 10, 4)
			s.Work(units)
			c.change(t, s, h, chain)
			toTheEnd(t, s)
			wantCounts(t, c.what+": the cycle in which it was changed", s, c.stayed, api.Counts{Units: 14, Cycles: 1})
			toTheEnd(t, s)
			wantCounts(t, c.what+": the next", s, c.stay, api.Counts{Units: 14 + 10 + c.stay, Cycles: 2})
			if c.stay == 4 {
				wantSlot(t, s, chain[3], 1, Number(0))
			}
		}
	}
}

// Cells that are new stay, at whichever place, whether it was looked at or not, and are no units.
func TestNewCellsStay(t *testing.T) {
	for units := 1; units <= 6; units++ {
		for fresh := 1; fresh <= 4; fresh++ {
			// One cell that is held, and one that is let go.
			s, h, _ := chained(t, 6, 1)
			slots(t, s, 1)
			s.Work(units)
			occupied := s.Occupied()
			for range fresh {
				slots(t, s, 1)
			}
			wantCounts(t, "new cells", s, occupied+fresh, api.Counts{Units: units})
			toTheEnd(t, s)
			wantCounts(t, "new cells behind the cycle", s, 1+fresh, api.Counts{Units: 7, Cycles: 1})
			toTheEnd(t, s)
			wantCounts(t, "new cells behind the next", s, 1, api.Counts{Units: 14, Cycles: 2})
			if len(h.held) != 1 {
				t.Fatal("the first cell is not held")
			}
		}
	}
}

// Between two cycles none is going on: what is made and let go then does not stay for another.
func TestBetweenCycles(t *testing.T) {
	s, h, chain := chained(t, 6, 3)
	toTheEnd(t, s)
	slots(t, s, 1)
	s.SetSlot(chain[0], 0, Number(0))
	wantCounts(t, "between", s, 4, api.Counts{Units: 9, Cycles: 1})
	toTheEnd(t, s)
	wantCounts(t, "behind the next", s, 1, api.Counts{Units: 16, Cycles: 2})
	h.held = nil
	toTheEnd(t, s)
	wantCounts(t, "nothing is held", s, 0, api.Counts{Units: 22, Cycles: 3})
}

// A forced collection ends the cycle, wherever that is; the next is a whole one.
func TestForcedAmidACycle(t *testing.T) {
	for units := range 9 {
		s, h, chain := chained(t, 5, 4)
		s.Work(units + 1)
		h.held = []Value{chain[2]}
		h.held = append(h.held, slots(t, s, 1))
		// The units of the first cycle are 9: behind the last one is going on no more.
		want := api.Counts{Units: units + 1, Cycles: units / 8}
		wantCounts(t, "all places but one have cells of the chain", s, 5, want)
		h.held = append(h.held, slots(t, s, 1))
		want.Forced++
		wantCounts(t, "forced", s, 4, want)
		s.Work(1)
		want.Units++
		h.held = h.held[:1]
		toTheEnd(t, s)
		want.Units += 4 + 5 - 1
		want.Cycles++
		wantCounts(t, "the cycle behind it", s, 4, want)
	}
}

// A forced collection that frees nothing is one too.
func TestForcedInVain(t *testing.T) {
	for units := range 4 {
		s, _, _ := chained(t, 2, 2)
		s.Work(units)
		wantNone(t, s)
		want := api.Counts{Units: units, Forced: 2, Cycles: units / 4}
		wantCounts(t, "in vain", s, 2, want)
		s.Work(100)
		want.Units, want.Cycles = want.Units+4, want.Cycles+1
		wantCounts(t, "the cycle behind it", s, 2, want)
	}
}

// plain is what a store must do, told plainly: when a cycle begins, all that can be reached is known at once.
type plain struct {
	store  *Store
	holder *holder
	stay   []Value // when the cycle ends that is going on
}

func (p *plain) reached() []Value {
	found := []Value{}
	var look func(Value)
	look = func(v Value) {
		if _, isNumber := v.Number(); isNumber || slices.Contains(found, v) {
			return
		}
		found = append(found, v)
		for _, inner := range p.store.places[v.place()].values {
			look(inner)
		}
	}
	for _, v := range p.holder.held {
		look(v)
	}
	return found
}

// change does something that a task may do with the cells that it can reach.
func (p *plain) change(t *testing.T, random *rand.Rand) {
	var from, what Value
	reached := p.reached()
	if len(reached) > 0 {
		from, what = reached[random.Intn(len(reached))], reached[random.Intn(len(reached))]
	}
	n, _ := p.store.Slots(from)
	switch kind := random.Intn(10); {
	case kind < 4 && len(reached) < len(p.store.places):
		p.made(slots(t, p.store, random.Intn(4)), random)
	case kind == 4 && len(reached) < len(p.store.places):
		v, _ := p.store.NewFunction(0, what)
		p.made(v, random)
	case kind == 5:
		p.holder.held[random.Intn(len(p.holder.held))] = Number(5)
	case kind == 6 && n > 0:
		p.store.SetSlot(from, random.Intn(n), Number(7))
	case kind == 7 && n > 0:
		p.holder.held[random.Intn(len(p.holder.held))] = p.store.Slot(from, random.Intn(n))
	case n > 0:
		p.store.SetSlot(from, random.Intn(n), what)
	}
}

func (p *plain) made(v Value, random *rand.Rand) {
	p.stay = append(p.stay, v)
	p.holder.held[random.Intn(len(p.holder.held))] = v
}

// Whatever is changed while a cycle goes on: its units, and the cells there are when it has ended, are those that the document tells.
func TestAnyChanges(t *testing.T) {
	random := rand.New(rand.NewSource(1))
	cycles, forced := 0, 0
	for range 300 {
		h := &holder{held: make([]Value, 1+random.Intn(6))}
		p := &plain{holder: h, store: New(1+random.Intn(30), h.visit)}
		for range 60 {
			wantCycle(t, p, random)
		}
		cycles, forced = cycles+p.store.Counts().Cycles, forced+p.store.Counts().Forced
	}
	if cycles < 1000 || forced < 1000 {
		t.Errorf("the changes are too tame: %d cycles, %d forced collections", cycles, forced)
	}
}

// wantCycle lets one cycle go on to its end, or till a forced collection, among changes.
func wantCycle(t *testing.T, p *plain, random *rand.Rand) {
	t.Helper()
	before := p.store.Counts()
	p.stay = p.reached()
	left := len(p.stay) + len(p.store.places)
	work := 1 + random.Intn(10)
	for left > 0 {
		p.store.Work(work)
		want := api.Counts{Units: before.Units + min(left, work), Forced: before.Forced, Cycles: before.Cycles + oneIf(left <= work)}
		if p.store.Counts() != want {
			t.Fatalf("P11: %+v, want %+v", p.store.Counts(), want)
		}
		before, left = want, left-work
		if left <= 0 {
			break
		}
		for range random.Intn(4) {
			p.change(t, random)
			if p.store.Counts().Forced > before.Forced {
				return
			}
		}
	}
	for _, v := range p.stay {
		if p.store.cellOf(v).isFree() {
			t.Fatalf("P9: a cell that stays was freed")
		}
	}
	if p.store.Occupied() != len(p.stay) {
		t.Fatalf("P11: %d cells behind a cycle, want %d", p.store.Occupied(), len(p.stay))
	}
}
