package hit

import (
	"slices"

	"chalkline/api"
	"chalkline/cnf"
	"chalkline/core"
	"chalkline/solver"
)

// All enumerates all cores and correction sets.
func All(c api.Cnf, assume []int, budget int) (api.Why, api.Errno) {
	if e := cnf.Check(c); e != api.OK {
		return api.Why{}, e
	}
	index := map[int]int{}
	for i, lit := range assume {
		_, same := index[lit]
		_, opposite := index[-lit]
		if lit == 0 || lit < -c.N || lit > c.N || same || opposite {
			return api.Why{}, api.ErrArg
		}
		index[lit] = i
	}
	if budget < 0 || budget > api.MaxNum {
		return api.Why{}, api.ErrArg
	}
	s, e := solver.New(len(assume))
	if e != api.OK {
		return api.Why{}, e
	}
	m := &unexplored{Solver: s, left: budget}
	y := m.explore(c, assume, func(lit int) int { return index[lit] })
	slices.SortFunc(y.Cores, slices.Compare)
	slices.SortFunc(y.Fixes, slices.Compare)
	return y, api.OK
}

// unexplored is the map of the index sets that neither contain a core nor are a part of a set that is known to be consistent. Variable i + 1 says that index i is not in the set: since a solver tries false first, the sets are large.
type unexplored struct {
	api.Solver
	left int // of the budget
}

// explore enumerates cores and correction sets until every index set is explored or the budget is spent.
func (m *unexplored) explore(c api.Cnf, assume []int, index func(lit int) int) api.Why {
	y := api.Why{Kind: api.YesA}
exploration:
	for {
		seed := m.seed()
		a := seed
		switch seed.Kind {
		case api.NoA:
			break exploration
		case api.YesA:
			a = m.examine(c, assume, func(i int) bool { return !seed.Model[i+1] })
		}
		var set []int
		for _, lit := range a.Core {
			set = append(set, index(lit))
		}
		slices.Sort(set)
		switch a.Kind {
		case api.NoA:
			y.Cores = append(y.Cores, set)
			m.require(set, 1)
		case api.YesA:
			y.Fixes = append(y.Fixes, set)
			m.require(set, -1)
		default:
			y.Kind = api.OutA
			break exploration
		}
	}
	return y
}

// seed solves for an unexplored index set.
func (m *unexplored) seed() api.Answer {
	s, a, e := solver.Solve(m.Solver, nil, m.left)
	if e != api.OK {
		return api.Answer{Kind: api.OutA}
	}
	m.Solver = s
	return m.paid(a)
}

// require says that one of the indices must be missing (sign 1) or present (sign -1).
func (m *unexplored) require(set []int, sign int) {
	var l []int
	for _, i := range set {
		l = append(l, sign*(i+1))
	}
	// If there were too many clauses, the zero solver would end the exploration.
	m.Solver, _ = solver.Add(m.Solver, l)
}

// examine returns a core within an index set (NoA), or else what is missing in a consistent set around it that can't be larger (YesA).
func (m *unexplored) examine(c api.Cnf, assume []int, in func(i int) bool) api.Answer {
	keep := chosen(assume, in)
	a, _ := core.Least(c, keep, m.left)
	if m.paid(a).Kind != api.YesA {
		return a
	}
	a, _ = core.Grow(c, keep, chosen(assume, func(i int) bool { return !in(i) }), m.left)
	return m.paid(a)
}

// paid takes what an answer cost from the budget.
func (m *unexplored) paid(a api.Answer) api.Answer {
	m.left -= a.Spent
	return a
}
