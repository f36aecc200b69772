package turnstile_test

import (
	"slices"

	"turnstile/api"
)

// modelCollector makes no marks: all cells that stay are known when a cycle begins, and its units are counted alone. Which place is taken, and which is looked at next, the document does not say: it is the first.
type modelCollector struct {
	places []*modelCell
	cycle  *modelCycle
	counts api.Counts
	forced [3]int // while marks were made, while places were looked at, between cycles
}

type modelCycle struct {
	stay  map[*modelCell]int
	marks int // units ahead of the first place
	next  int // place
}

// collect is step 5.
func (m *model) collect() {
	k := &m.collector
	if k.cycle == nil {
		stay := m.reached()
		k.cycle = &modelCycle{stay: stay, marks: len(stay)}
	}
	for n := 0; n < m.config.Work && k.cycle != nil; n++ {
		k.unit()
	}
}

func (k *modelCollector) unit() {
	k.counts.Units++
	c := k.cycle
	if c.marks > 0 {
		c.marks--
		return
	}
	if c.stay[k.places[c.next]] == 0 {
		k.places[c.next] = nil
	}
	c.next++
	if c.next == len(k.places) {
		k.cycle = nil
		k.counts.Cycles++
	}
}

// makeRoom is a forced collection, if no place is free.
func (m *model) makeRoom() {
	k := &m.collector
	if slices.Contains(k.places, nil) {
		return
	}
	k.counts.Forced++
	k.forced[k.phase()]++
	k.cycle = nil
	reached := m.reached()
	for i, c := range k.places {
		if reached[c] == 0 {
			k.places[i] = nil
		}
	}
}

func (k *modelCollector) phase() int {
	switch {
	case k.cycle == nil:
		return 2
	case k.cycle.marks == 0:
		return 1
	}
	return 0
}

func (k *modelCollector) lay(c *modelCell) {
	k.places[slices.Index(k.places, nil)] = c
	if k.cycle != nil {
		k.cycle.stay[c] = 1
	}
}

func (k *modelCollector) occupied() int {
	n := 0
	for _, c := range k.places {
		if c != nil {
			n++
		}
	}
	return n
}
