package graph_test

import "jobmux/api"

// model is what the chapter says about a list of jobs, as tables: which job needs which one, at once and over any number of steps.
type model struct{ needs, reach [][]bool }

// table returns a table that is empty.
func table(n int) [][]bool {
	t := make([][]bool, n)
	for i := range t {
		t[i] = make([]bool, n)
	}
	return t
}

// newModel returns the model of a list.
func newModel(l []api.Job) model {
	m := model{table(len(l)), table(len(l))}
	first := map[string]int{}
	for k := len(l) - 1; k >= 0; k-- {
		first[l[k].Name] = k
	}
	for i, j := range l {
		for _, name := range j.Needs {
			if k, ok := first[name]; ok {
				m.needs[i][k], m.reach[i][k] = true, true
			}
		}
	}
	for via := range l {
		for i := range l {
			for k := range l {
				m.reach[i][k] = m.reach[i][k] || m.reach[i][via] && m.reach[via][k]
			}
		}
	}
	return m
}

// places returns the places that have something, in order.
func (m model) places(has func(k int) bool) []int {
	var l []int
	for k := range m.needs {
		if has(k) {
			l = append(l, k)
		}
	}
	return l
}

// needed is Needs.
func (m model) needed(i int) []int {
	return m.places(func(k int) bool { return m.needs[i][k] })
}

// dependents is Dependents.
func (m model) dependents(i int) []int {
	return m.places(func(k int) bool { return m.reach[k][i] })
}

// stuck reports whether a job lies on a cycle or needs one that does: these are the jobs that no order can have.
func (m model) stuck(i int) bool {
	return len(m.places(func(k int) bool { return m.reach[k][k] && (k == i || m.reach[i][k]) })) > 0
}

// order is Order: of the jobs that can be taken, the first one is.
func (m model) order() []int {
	var l []int
	taken := map[int]bool{}
	for {
		free := m.places(func(k int) bool {
			return !taken[k] && len(m.places(func(n int) bool { return m.needs[k][n] && !taken[n] })) == 0
		})
		if len(free) == 0 {
			return l
		}
		l, taken[free[0]] = append(l, free[0]), true
	}
}

// cycle is Cycle: who goes on as often as there are jobs is on the cycle then; the first of its jobs on the way begins it.
func (m model) cycle() []int {
	rest := m.places(m.stuck)
	if len(rest) == 0 {
		return nil
	}
	next := func(i int) int { return m.places(func(k int) bool { return m.needs[i][k] && m.stuck(k) })[0] }
	on := rest[0]
	for range m.needs {
		on = next(on)
	}
	round := map[int]bool{}
	for ; !round[on]; on = next(on) {
		round[on] = true
	}
	i := rest[0]
	for !round[i] {
		i = next(i)
	}
	l := []int{i}
	for k := next(i); k != i; k = next(k) {
		l = append(l, k)
	}
	return l
}
