package tidy

import (
	"iter"

	"chalkline/cnf"
)

// propagation computes closures of growing sets of literals.
type propagation struct {
	clauses [][]int       // without repetitions
	open    []int         // how many literals of a clause are not known to be false
	in      map[int][]int // the clauses that contain a literal
	truth   map[int]bool  // the true literals
	pending []int         // true literals whose clauses are still to be visited
	failed  bool
}

// newPropagation returns the closure of no literals, still to be run.
func newPropagation(clauses iter.Seq[[]int]) *propagation {
	p := &propagation{in: map[int][]int{}, truth: map[int]bool{}}
	for c := range clauses {
		l, _ := cnf.Norm(c)
		i := len(p.clauses)
		p.clauses, p.open = append(p.clauses, l), append(p.open, len(l))
		for _, lit := range l {
			p.in[lit] = append(p.in[lit], i)
		}
	}
	for i := range p.clauses {
		p.visit(i)
	}
	return p
}

// assume makes a literal true that is neither true nor false.
func (p *propagation) assume(lit int) {
	p.truth[lit] = true
	p.pending = append(p.pending, lit)
}

// visit fails, or makes a literal true, if a clause has no other choice.
func (p *propagation) visit(i int) {
	switch p.open[i] {
	case 0:
		p.failed = true
	case 1:
		for _, lit := range p.clauses[i] {
			if !p.truth[lit] && !p.truth[-lit] {
				p.assume(lit)
			}
		}
	}
}

// run completes the closure. It reports false if there is a conflict.
func (p *propagation) run() bool {
	for len(p.pending) > 0 && !p.failed {
		lit := p.pending[0]
		p.pending = p.pending[1:]
		for _, i := range p.in[-lit] {
			p.open[i]--
			p.visit(i)
		}
	}
	return !p.failed
}
