package solver

import (
	"iter"
	"slices"

	"chalkline/api"
)

// others yields the literals of a clause other than one of them.
func (q *search) others(id, lit int) iter.Seq[int] {
	return func(yield func(int) bool) {
		for _, x := range q.clauses[id].lits {
			if x != lit && !yield(x) {
				return
			}
		}
	}
}

// learn learns a clause from a conflict above level 0, and makes true what it implies at the level where it does so first.
func (q *search) learn(conflict int) {
	q.now = min(q.now+1, api.MaxNum)
	l := q.minimized(q.firstPoint(conflict))
	for _, lit := range l {
		q.seen[variable(lit)] = false
	}
	// The second literal is to be one that is unassigned last.
	level := 0
	for i := 1; i < len(l); i++ {
		if x := q.level[variable(l[i])]; x > level {
			level = x
			l[1], l[i] = l[i], l[1]
		}
	}
	levels := map[int]bool{}
	for _, lit := range l {
		levels[q.level[variable(lit)]] = true
	}
	q.back(level)
	id := q.store(clause{lits: l, learnt: true, levels: len(levels), act: q.now})
	q.watchBoth(id)
	q.proof = append(q.proof, api.Line{Kind: api.LearntP, L: slices.Clone(l)})
	q.assign(l[0], id)
	q.order.decay()
}

// firstPoint returns the clause of the first unique implication point of a conflict; that point comes first. The variables of the clause are seen.
func (q *search) firstPoint(id int) []int {
	l := []int{0}
	open := 0 // literals of the last level that are still to be replaced
	implied := 0
	for at := len(q.trail) - 1; ; at-- {
		if c := &q.clauses[id]; c.learnt {
			c.act = q.now
		}
		for lit := range q.others(id, implied) {
			v := variable(lit)
			if q.seen[v] || q.level[v] == 0 {
				continue
			}
			q.seen[v] = true
			q.order.bump(v)
			if q.level[v] == len(q.limits) {
				open++
			} else {
				l = append(l, lit)
			}
		}
		for !q.seen[variable(q.trail[at])] {
			at--
		}
		implied = q.trail[at]
		if open--; open == 0 {
			l[0] = -implied
			return l
		}
		q.seen[variable(implied)] = false
		id = q.reason[variable(implied)]
	}
}

// minimized returns a clause, whose variables are seen, without the literals that the others imply. Those are not seen any more.
func (q *search) minimized(l []int) []int {
	known := map[int]bool{}
	var redundant func(lit int) bool
	redundant = func(lit int) (yes bool) {
		v := variable(lit)
		if known, ok := known[v]; ok {
			return known
		}
		defer func() { known[v] = yes }()
		if q.reason[v] == none {
			return false
		}
		for x := range q.others(q.reason[v], -lit) {
			if u := variable(x); q.level[u] > 0 && !q.seen[u] && !redundant(x) {
				return false
			}
		}
		return true
	}
	out := l[:1]
	var gone []int
	for _, lit := range l[1:] {
		if redundant(lit) {
			gone = append(gone, lit)
		} else {
			out = append(out, lit)
		}
	}
	for _, lit := range gone {
		q.seen[variable(lit)] = false
	}
	return out
}

// core returns the assumptions that make an assumption false, and that one.
func (q *search) core(failed int) []int {
	needed := map[int]bool{failed: true}
	q.seen[variable(failed)] = true
	for _, lit := range slices.Backward(q.trail) {
		v := variable(lit)
		if !q.seen[v] {
			continue
		}
		q.seen[v] = false
		if q.level[v] == 0 {
			continue
		}
		if q.reason[v] == none {
			// All decisions so far are assumptions.
			needed[lit] = true
			continue
		}
		for x := range q.others(q.reason[v], lit) {
			q.seen[variable(x)] = true
		}
	}
	return slices.DeleteFunc(slices.Clone(q.assume), func(lit int) bool { return !needed[lit] })
}
