package prop

import (
	"slices"

	"chalkline/api"
)

// propagator extends a trail. Every clause that may still become unit watches two different literals of it that are not false.
type propagator struct {
	clauses  [][]int
	out      []api.Step
	truth    truth
	watched  [][2]int      // the literals that a clause watches
	watchers map[int][]int // the clauses that watch a literal
}

// newPropagator returns a propagator for a valid trail.
func newPropagator(c api.Cnf, t []api.Step) *propagator {
	p := &propagator{clauses: c.L, out: slices.Clone(t), truth: newTruth(c.N), watched: make([][2]int, len(c.L)), watchers: map[int][]int{}}
	for _, s := range t {
		p.truth.add(s.Lit)
	}
	return p
}

// isFalse reports whether a literal is false.
func (p *propagator) isFalse(lit int) bool { return p.truth.has(-lit) }

// imply appends a step that a clause implies.
func (p *propagator) imply(lit, clause int) {
	p.truth.add(lit)
	p.out = append(p.out, api.Step{Lit: lit, Why: clause})
}

// watch makes a clause watch a literal in the place of another.
func (p *propagator) watch(clause, place, lit int) {
	p.watched[clause][place] = lit
	p.watchers[lit] = append(p.watchers[lit], clause)
}

// run propagates to the end. It returns a falsified clause, or -1.
func (p *propagator) run() int {
	for i := range p.clauses {
		if !p.start(i) {
			return i
		}
	}
	conflict := -1
pending:
	for at := 0; at < len(p.out); at++ {
		gone := -p.out[at].Lit
		for _, i := range p.watchers[gone] {
			if !p.replace(i, gone) {
				conflict = i
				break pending
			}
		}
		delete(p.watchers, gone)
	}
	return conflict
}

// start makes a clause watch two literals, unless it is true or implies one. It reports false if the clause is falsified.
func (p *propagator) start(clause int) bool {
	l := p.clauses[clause]
	if slices.ContainsFunc(l, p.truth.has) {
		return true
	}
	first := slices.IndexFunc(l, func(lit int) bool { return !p.isFalse(lit) })
	if first < 0 {
		return false
	}
	second := slices.IndexFunc(l, func(lit int) bool { return lit != l[first] && !p.isFalse(lit) })
	if second < 0 {
		p.imply(l[first], clause)
		return true
	}
	p.watch(clause, 0, l[first])
	p.watch(clause, 1, l[second])
	return true
}

// replace finds another literal to watch for one that has become false. It reports false if the clause is falsified.
func (p *propagator) replace(clause, gone int) bool {
	place := 0
	if p.watched[clause][1] == gone {
		place = 1
	}
	other := p.watched[clause][1-place]
	if p.truth.has(other) {
		return true
	}
	l := p.clauses[clause]
	open := func(lit int) bool { return lit != other && !p.isFalse(lit) }
	if next := slices.IndexFunc(l, open); next >= 0 {
		p.watch(clause, place, l[next])
		return true
	}
	if p.isFalse(other) {
		return false
	}
	p.imply(other, clause)
	return true
}
