package solver

import (
	"slices"

	"chalkline/api"
	"chalkline/cnf"
)

// load adds the clauses of a solver. Most searches are short, and this is most of their work, so the memory for the clauses and the watches is laid out at once.
func (q *search) load(s api.Solver) {
	size := 0
	for _, l := range s.Given {
		size += len(l)
	}
	for _, x := range s.Learnt {
		size += len(x.L)
	}
	q.clauses = make([]clause, 0, len(s.Given)+len(s.Learnt))
	room := make([]int, 0, size)
	add := func(c clause) {
		l, tautology := c.lits, false
		if !increasing(l) {
			l, tautology = cnf.Norm(l)
		}
		if !tautology {
			start := len(room)
			room = append(room, l...)
			c.lits = slices.Clip(room[start:])
			q.settle(q.store(c))
		}
	}
	for _, l := range s.Given {
		add(clause{lits: l})
	}
	for _, x := range s.Learnt {
		q.now = max(q.now, x.Act)
		add(clause{lits: x.L, learnt: true, levels: x.Levels, act: x.Act})
	}
	q.watchAll()
}

// increasing reports whether the variables of a clause increase, as cnf.Norm orders them.
func increasing(l []int) bool {
	for i := 1; i < len(l); i++ {
		if variable(l[i]) <= variable(l[i-1]) {
			return false
		}
	}
	return true
}

// store adds a clause without watching it, and returns its number.
func (q *search) store(c clause) int {
	q.clauses = append(q.clauses, c)
	if c.learnt {
		q.learnt++
	}
	return len(q.clauses) - 1
}

// settle makes true what a clause of one literal says. A clause that is false at once breaks the search.
func (q *search) settle(id int) {
	switch l := q.clauses[id].lits; {
	case len(l) == 0 || len(l) == 1 && q.isFalse(l[0]):
		q.broken = id
	case len(l) == 1 && !q.isTrue(l[0]):
		q.assign(l[0], id)
	}
}

// watchAll makes all clauses watch their first two literals.
func (q *search) watchAll() {
	sizes := make([]int, len(q.watchers))
	total := 0
	for _, c := range q.clauses {
		if len(c.lits) > 1 {
			sizes[q.n+c.lits[0]]++
			sizes[q.n+c.lits[1]]++
			total += 2
		}
	}
	room := make([]watch, total)
	for i, size := range sizes {
		q.watchers[i], room = room[:0:size], room[size:]
	}
	for id := range q.clauses {
		q.watchBoth(id)
	}
}

// watchBoth makes a clause watch its first two literals, if it has so many.
func (q *search) watchBoth(id int) {
	if l := q.clauses[id].lits; len(l) > 1 {
		q.watch(id, l[0], l[1])
		q.watch(id, l[1], l[0])
	}
}
