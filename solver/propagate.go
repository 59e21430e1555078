package solver

// variable returns the variable of a literal.
func variable(lit int) int { return max(lit, -lit) }

// isTrue reports whether a literal is true.
func (q *search) isTrue(lit int) bool { return q.truth[q.n+lit] }

// isFalse reports whether a literal is false.
func (q *search) isFalse(lit int) bool { return q.truth[q.n-lit] }

// assign makes a literal true at the current level.
func (q *search) assign(lit, reason int) {
	v := variable(lit)
	q.truth[q.n+lit], q.level[v], q.reason[v] = true, len(q.limits), reason
	q.trail = append(q.trail, lit)
}

// decide opens a level with a literal.
func (q *search) decide(lit int) {
	q.limits = append(q.limits, len(q.trail))
	q.assign(lit, none)
}

// back takes back all assignments above a level.
func (q *search) back(level int) {
	if level >= len(q.limits) {
		return
	}
	start := q.limits[level]
	for _, lit := range q.trail[start:] {
		v := variable(lit)
		q.truth[q.n+lit], q.phase[v] = false, lit > 0
		q.order.push(v)
	}
	q.trail, q.head, q.limits = q.trail[:start], start, q.limits[:level]
}

// watch makes a clause watch a literal; other is another literal of the clause.
func (q *search) watch(id, lit, other int) {
	q.watchers[q.n+lit] = append(q.watchers[q.n+lit], watch{id, other})
}

// propagate makes true what the clauses imply. It returns a false clause, or none.
func (q *search) propagate() int {
	for q.broken == none && q.head < len(q.trail) {
		lost := -q.trail[q.head]
		q.head++
		list := q.watchers[q.n+lost]
		kept := list[:0]
	visit:
		for i, w := range list {
			if q.isTrue(w.other) {
				kept = append(kept, w)
				continue
			}
			l := q.clauses[w.id].lits
			if l[0] == lost {
				l[0], l[1] = l[1], lost
			}
			for k := 2; k < len(l); k++ {
				if !q.isFalse(l[k]) {
					l[1], l[k] = l[k], lost
					q.watch(w.id, l[1], l[0])
					continue visit
				}
			}
			kept = append(kept, watch{w.id, l[0]})
			if q.isFalse(l[0]) {
				q.watchers[q.n+lost] = append(kept, list[i+1:]...)
				return w.id
			}
			if !q.isTrue(l[0]) {
				q.assign(l[0], w.id)
			}
		}
		q.watchers[q.n+lost] = kept
	}
	return q.broken
}
