package engine

import (
	"math"
	"slices"
)

// after is the time so many ticks later, none if they are below 0; no time is later than the greatest number.
func (e *Engine) after(ticks int64) int64 {
	left := math.MaxInt64 - e.clock
	return e.clock + min(max(ticks, 0), left)
}

// sleep lays a task among those that sleep, behind all whose time is not later.
func (e *Engine) sleep(t *task, ticks int64) {
	t.until = e.after(ticks)
	isLater := func(other *task) bool { return other.until > t.until }
	place := slices.IndexFunc(e.sleepers.tasks, isLater)
	if place < 0 {
		place = len(e.sleepers.tasks)
	}
	e.sleepers.insert(place, t)
}

// wakeSleepers lets those whose time has come go to the end of the queue.
func (e *Engine) wakeSleepers() {
	for !e.sleepers.empty() && e.sleepers.first().until <= e.clock {
		e.queue.join(e.sleepers.first())
	}
}
