package turnstile_test

import (
	"slices"
	"sync"
	"testing"

	"turnstile/turnstile"
)

func TestMachinesAreApart(t *testing.T) {
	first, _ := turnstile.Load(mixed, plain)
	second, _ := turnstile.Load(mixed, plain)
	if first == second {
		t.Fatal("P2: two calls of Load gave one machine")
	}
	queue := first.Queue()
	queue = queue[:cap(queue)]
	for i := range queue {
		queue[i] = 99
	}
	for _, m := range []*turnstile.Machine{first, second} {
		if q := m.Queue(); !slices.Equal(q, []int{1}) {
			t.Errorf("P2: the queue has changed with a list that came out: %v", q)
		}
	}
}

func TestAskedFromSeveralGoroutines(t *testing.T) {
	m, _ := turnstile.Load(mixed, plain)
	var group sync.WaitGroup
	for range 8 {
		group.Go(func() {
			for range 100 {
				if q, c := m.Queue(), m.Clock(); !slices.Equal(q, []int{1}) || c != 0 {
					t.Errorf("P2: queue %v, time %d", q, c)
				}
				wantMachine(t, mixed, plain)
			}
		})
	}
	group.Wait()
}
