package engine

import "slices"

// line is tasks that stand behind one another. A task stands in one line at most, and knows in which: so it can be taken out wherever it is.
type line struct {
	tasks []*task
}

func (l *line) empty() bool { return len(l.tasks) == 0 }

func (l *line) first() *task { return l.tasks[0] }

// join lets a task go from where it is to the end of a line.
func (l *line) join(t *task) { l.insert(len(l.tasks), t) }

// insert lets a task go from where it is to a place in another line. Whoever stands in a line does not run on.
func (l *line) insert(place int, t *task) {
	t.stepOut()
	t.running = false
	t.line = l
	l.tasks = slices.Insert(l.tasks, place, t)
}

// stepOut takes a task out of the line in which it stands, with what it has left behind there.
func (t *task) stepOut() {
	if t.line == nil {
		return
	}
	place := slices.Index(t.line.tasks, t)
	t.line.tasks = slices.Delete(t.line.tasks, place, place+1)
	t.line = nil
	t.left = nil
}
