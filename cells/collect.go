package cells

// Work lets the collector work for at most so many units. Behind a cycle's last unit it stops: the next one begins when it is let work again.
func (s *Store) Work(units int) {
	if s.cycle == nil {
		s.cycle = s.begin()
	}
	for n := 0; n < units && s.cycle != nil; n++ {
		s.cycle.unit()
		s.counts.Units++
		if s.cycle.ended() {
			s.cycle = nil
			s.counts.Cycles++
		}
	}
}

// force frees all cells that cannot be reached, at once. A cycle that is going on knows nothing of that, and so comes to its end here.
func (s *Store) force() {
	s.counts.Forced++
	s.cycle = nil
	for c := s.begin(); !c.ended(); {
		c.unit()
	}
}

// cycle goes through the cells that could be reached when it began, and then looks at all places.
type cycle struct {
	store  *Store
	marked []bool // of each place: if its cell stays when the place is looked at
	ahead  []int  // the places of cells that are marked, and that are to be gone through
	next   int    // the place that is looked at next
}

// begin is a cycle that knows which cells can be reached at once.
func (s *Store) begin() *cycle {
	c := &cycle{store: s, marked: make([]bool, len(s.places))}
	s.roots(c.reach)
	return c
}

// reach marks a cell that could be reached when the cycle began.
func (c *cycle) reach(v Value) {
	if v.isCell() && !c.marked[v.place()] {
		c.marked[v.place()] = true
		c.ahead = append(c.ahead, v.place())
	}
}

// keep lets a cell stay that is new since the cycle began. It is not gone through: what will be in it could be reached when the cycle began, or is new too.
func (c *cycle) keep(v Value) { c.marked[v.place()] = true }

// unit is the least that the collector does.
func (c *cycle) unit() {
	if len(c.ahead) > 0 {
		c.goThrough()
	} else {
		c.lookAtPlace()
	}
}

func (c *cycle) goThrough() {
	last := len(c.ahead) - 1
	place := c.ahead[last]
	c.ahead = c.ahead[:last]
	for _, v := range c.store.places[place].values {
		c.reach(v)
	}
}

func (c *cycle) lookAtPlace() {
	if !c.marked[c.next] {
		c.store.places[c.next] = cell{}
	}
	c.next++
}

func (c *cycle) ended() bool { return c.next == len(c.marked) }
