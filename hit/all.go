package hit

import (
	"slices"

	"chalkline/api"
	"chalkline/cnf"
	"chalkline/core"
	"chalkline/solver"
)

// All enumerates all cores and correction sets.
func All(c api.Cnf, assume []int, budget int) (api.Why, api.Errno) {
	if e := cnf.Check(c); e != api.OK {
		return api.Why{}, e
	}
	index := map[int]int{}
	for i, lit := range assume {
		_, same := index[lit]
		_, opposite := index[-lit]
		if lit == 0 || lit < -c.N || lit > c.N || same || opposite {
			return api.Why{}, api.ErrArg
		}
		index[lit] = i
	}
	if budget < 0 || budget > api.MaxNum {
		return api.Why{}, api.ErrArg
	}
	s, e := solver.New(len(assume))
	if e != api.OK {
		return api.Why{}, e
	}
	m := &unexplored{Solver: s, left: budget}
	y := m.explore(c, assume, func(lit int) int { return index[lit] })
	slices.SortFunc(y.Cores, slices.Compare)
	slices.SortFunc(y.Fixes, slices.Compare)
	return y, api.OK
}

// unexplored is the map of the index sets that neither contain a core nor are a part of a set that is known to be consistent. Variable i + 1 says that index i is not in the set: since a solver tries false first, the sets are large.
type unexplored struct {
	api.Solver
	left int // of the budget
}

// explore enumerates cores and correction sets until every index set is explored or the budget is spent.
func (m *unexplored) explore(c api.Cnf, assume []int, index func(lit int) int) api.Why {
	y := api.Why{Kind: api.YesA}
exploration:
	for {
		seed := m.seed()
		a := seed
		var in []bool
		switch seed.Kind {
		case api.NoA:
			break exploration
		case api.YesA:
			in = enlarged(seed.Model, y.Cores)
			a, _ = core.Least(c, chosen(assume, func(i int) bool { return in[i] }), m.left)
			m.left -= a.Spent
		}
		var set []int
		switch a.Kind {
		case api.NoA:
			for _, lit := range a.Core {
				set = append(set, index(lit))
			}
			slices.Sort(set)
			y.Cores = append(y.Cores, set)
			m.require(set, 1)
		case api.YesA:
			for i := range assume {
				if !in[i] {
					set = append(set, i)
				}
			}
			y.Fixes = append(y.Fixes, set)
			m.require(set, -1)
		default:
			y.Kind = api.OutA
			break exploration
		}
	}
	return y
}

// enlarged returns an unexplored index set that is as large as the known cores allow. If it is consistent, what is missing is a correction set: with any more it would contain a core.
func enlarged(model []bool, cores [][]int) []bool {
	in := make([]bool, len(model)-1)
	for i := range in {
		in[i] = !model[i+1]
	}
	for i := range in {
		if in[i] {
			continue
		}
		in[i] = true
		in[i] = !slices.ContainsFunc(cores, func(core []int) bool {
			return !slices.ContainsFunc(core, func(k int) bool { return !in[k] })
		})
	}
	return in
}

// seed solves for an unexplored index set.
func (m *unexplored) seed() api.Answer {
	s, a, e := solver.Solve(m.Solver, nil, m.left)
	if e != api.OK {
		return api.Answer{Kind: api.OutA}
	}
	m.Solver = s
	m.left -= a.Spent
	return a
}

// require says that one of the indices must be missing (sign 1) or present (sign -1).
func (m *unexplored) require(set []int, sign int) {
	var l []int
	for _, i := range set {
		l = append(l, sign*(i+1))
	}
	// If there were too many clauses, the zero solver would end the exploration.
	m.Solver, _ = solver.Add(m.Solver, l)
}
