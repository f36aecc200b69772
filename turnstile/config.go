package turnstile

import "turnstile/api"

// mayBe tells if each number of a configuration is within its bounds.
func mayBe(c api.Config) bool {
	return within(c.Cells, api.MaxCells) &&
		within(c.Quantum, api.MaxQuantum) &&
		within(c.Work, api.MaxWork) &&
		within(c.Tasks, api.MaxTasks)
}

func within(n, most int) bool { return 1 <= n && n <= most }
