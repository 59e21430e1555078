// Package bulk gives a solver many clauses at once. The result is the same as that of adding them one by one, but that checks the whole solver for every clause.
package bulk

import (
	"slices"

	"chalkline/api"
	"chalkline/cnf"
	"chalkline/solver"
)

// maxClauses is the greatest number of clauses of a solver.
const maxClauses = 65536

// New returns a solver with the variables and the clauses of c.
func New(c api.Cnf) (api.Solver, api.Errno) {
	s, e := solver.New(c.N)
	if e != api.OK {
		return api.Solver{}, e
	}
	return Add(s, c)
}

// Add grows a solver to at least the variables of c, and adds its clauses.
func Add(s api.Solver, c api.Cnf) (api.Solver, api.Errno) {
	if e := cnf.Check(c); e != api.OK {
		return api.Solver{}, e
	}
	s, e := solver.Grow(s, max(s.N, c.N))
	if e != api.OK {
		return api.Solver{}, e
	}
	if len(s.Given)+len(c.L) > maxClauses {
		return api.Solver{}, api.ErrBound
	}
	s.Given, s.Proof = slices.Clip(s.Given), slices.Clip(s.Proof)
	for _, l := range c.L {
		l = slices.Clone(l)
		s.Given = append(s.Given, l)
		s.Proof = append(s.Proof, api.Line{Kind: api.GivenP, L: l})
	}
	return s, api.OK
}
