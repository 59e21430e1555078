package solver

import (
	"slices"

	"chalkline/api"
	"chalkline/heap"
	"chalkline/tidy"
)

const (
	few        = 10    // with so few variables no clause is ever dropped, so that none is learnt twice
	pace       = 64    // conflicts to a restart, times the Luby sequence
	manyLearnt = 3000  // learnt clauses that are kept at first
	moreLearnt = 300   // how many more are kept after each reduction
	mostLearnt = 40000 // learnt clauses that are kept at the most
	none       = -1    // no clause
)

// clause is a clause without repetitions. It watches its first two literals.
type clause struct {
	lits        []int
	learnt      bool
	dropped     bool
	levels, act int
}

// watch is an entry of the list of a literal: a clause that watches it, and another literal of that clause.
type watch struct {
	id, other int
}

// search is the state of a search. The literal lit stands at n + lit.
type search struct {
	n        int
	clauses  []clause
	watchers [][]watch
	truth    []bool
	level    []int // of the assigned variables
	reason   []int // the clause that implied a variable, or none
	trail    []int // the true literals
	limits   []int // the length of the trail before each decision
	head     int   // how many literals of the trail are propagated
	broken   int   // a clause that is false from the start, or none
	order    *order
	phase    []bool
	seen     []bool
	assume   []int
	proof    []api.Line // the lines of this search
	budget   int
	spent    int
	now      int // counts conflicts from search to search
	learnt   int // how many learnt clauses there are
	room     int // how many there may be before the next reduction
}

// newSearch returns a search for a valid solver.
func newSearch(s api.Solver, assume []int, budget int) *search {
	q := &search{
		n: s.N, watchers: make([][]watch, 2*s.N+1), truth: make([]bool, 2*s.N+1), level: make([]int, s.N+1), reason: make([]int, s.N+1),
		broken: none, order: newOrder(s.Heap), phase: slices.Clone(s.Phase), seen: make([]bool, s.N+1), assume: assume, budget: budget, room: manyLearnt,
	}
	q.load(s)
	return q
}

// result returns the solver after the search.
func (q *search) result(s api.Solver) api.Solver {
	q.back(0)
	s.Heap, s.Phase = q.order.heap(), q.phase
	s.Proof = append(slices.Clip(s.Proof), q.proof...)
	s.Learnt = nil
	for _, c := range q.clauses {
		if c.learnt && !c.dropped && len(s.Learnt) < maxClauses {
			s.Learnt = append(s.Learnt, api.Learnt{L: c.lits, Levels: c.levels, Act: c.act})
		}
	}
	return s
}

// run searches to the end.
func (q *search) run() api.Answer {
	round := 1
	left := pace * heap.Luby(round)
	for {
		if conflict := q.propagate(); conflict != none {
			if q.spent == q.budget {
				return api.Answer{Kind: api.OutA, Spent: q.spent}
			}
			q.spent++
			if len(q.limits) == 0 {
				return api.Answer{Kind: api.NoA, Spent: q.spent}
			}
			q.learn(conflict)
			left--
			continue
		}
		if left <= 0 || q.crowded() {
			round++
			left = pace * heap.Luby(round)
			q.back(0)
			q.reduce()
			continue
		}
		lit, core := q.choose()
		switch {
		case core != nil:
			return api.Answer{Kind: api.NoA, Core: core, Spent: q.spent}
		case lit == 0:
			return api.Answer{Kind: api.YesA, Model: q.model(), Spent: q.spent}
		}
		q.decide(lit)
	}
}

// choose returns the literal to decide next, or 0 if all variables are assigned. If an assumption is false, it returns a core.
func (q *search) choose() (lit int, core []int) {
	for len(q.limits) < len(q.assume) {
		lit := q.assume[len(q.limits)]
		if q.isFalse(lit) {
			return 0, q.core(lit)
		}
		if !q.isTrue(lit) {
			return lit, nil
		}
		// A level of its own keeps the levels in step with the assumptions.
		q.limits = append(q.limits, len(q.trail))
	}
	for v := q.order.pop(); v != 0; v = q.order.pop() {
		if q.isTrue(v) || q.isFalse(v) {
			continue
		}
		if q.phase[v] {
			return v, nil
		}
		return -v, nil
	}
	return 0, nil
}

// model returns the assignment of all variables.
func (q *search) model() []bool {
	a := make([]bool, q.n+1)
	for v := 1; v <= q.n; v++ {
		a[v] = q.isTrue(v)
	}
	return a
}

// crowded reports whether there are too many learnt clauses.
func (q *search) crowded() bool {
	return q.n > few && q.learnt > q.room
}

// reduce drops learnt clauses if there are too many. The search must be back at level 0.
func (q *search) reduce() {
	if !q.crowded() {
		return
	}
	q.room = min(q.room+moreLearnt, mostLearnt)
	if q.drop(0); q.crowded() {
		// Too many clauses of so few levels that they would all be kept.
		q.drop(q.n)
	}
	// What is in use can't be dropped, and must not bring the next reduction at once.
	q.room = max(q.room, q.learnt+moreLearnt)
	for i := range q.watchers {
		q.watchers[i] = slices.DeleteFunc(q.watchers[i], func(w watch) bool { return q.clauses[w.id].dropped })
	}
}

// drop drops half of the learnt clauses that are not in use, or keeps some of them as if they had more levels.
func (q *search) drop(moreLevels int) {
	var l []api.Learnt
	for id, c := range q.clauses {
		inUse := len(c.lits) == 1 || q.isTrue(c.lits[0]) && q.reason[variable(c.lits[0])] == id
		if c.learnt && !c.dropped && !inUse {
			l = append(l, api.Learnt{L: []int{id}, Levels: c.levels + moreLevels, Act: c.act})
		}
	}
	keep := map[int]bool{}
	for _, x := range tidy.Reduce(l, len(l)/2) {
		keep[x.L[0]] = true
	}
	for _, x := range l {
		if id := x.L[0]; !keep[id] {
			q.clauses[id].dropped = true
			q.learnt--
			q.proof = append(q.proof, api.Line{Kind: api.DropP, L: q.clauses[id].lits})
		}
	}
}
