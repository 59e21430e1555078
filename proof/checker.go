package proof

import "chalkline/cnf"

// checker propagates clauses that come and go. Between its calls only that is true which the clauses imply by themselves: the base.
type checker struct {
	top      int     // the greatest variable
	clauses  [][]int // the literals of a clause without repetitions; it watches the first two
	dropped  []bool
	units    []int   // the clauses of one literal
	empty    int     // how many clauses have no literal
	watchers [][]int // the clauses that watch a literal, among them dropped ones
	truth    []bool
	trail    []int // the true literals
	head     int   // how many of them are propagated
	failed   bool  // the base has a conflict
	stale    bool  // the base may rest on a clause that was dropped
}

// newChecker returns a checker without clauses for the variables from 1 to top.
func newChecker(top int) *checker {
	return &checker{top: top, watchers: make([][]int, 2*top+1), truth: make([]bool, 2*top+1)}
}

// isTrue reports whether a literal is true.
func (x *checker) isTrue(lit int) bool { return x.truth[x.top+lit] }

// assign makes a literal true.
func (x *checker) assign(lit int) {
	x.truth[x.top+lit] = true
	x.trail = append(x.trail, lit)
}

// undo takes back all but the first n assignments.
func (x *checker) undo(n int) {
	for _, lit := range x.trail[n:] {
		x.truth[x.top+lit] = false
	}
	x.trail, x.head = x.trail[:n], n
}

// add adds a clause and returns its number.
func (x *checker) add(clause []int) int {
	id := len(x.clauses)
	l, tautology := cnf.Norm(clause)
	x.clauses, x.dropped = append(x.clauses, l), append(x.dropped, false)
	switch {
	case tautology:
		// It never becomes unit or false.
	case len(l) == 0:
		x.empty++
		x.failed = true
	case len(l) == 1:
		x.units = append(x.units, id)
		x.require(l[0])
	default:
		x.watch(id)
	}
	return id
}

// require makes the only literal left of a clause true in the base.
func (x *checker) require(lit int) {
	switch {
	case x.isTrue(-lit):
		x.failed = true
	case !x.isTrue(lit):
		x.assign(lit)
		x.failed = !x.propagate() || x.failed
	}
}

// watch makes a clause watch two of its literals, such as are not false if there are any.
func (x *checker) watch(id int) {
	l := x.clauses[id]
	open := 0
	for i, lit := range l {
		if !x.isTrue(-lit) && open < 2 {
			l[open], l[i] = l[i], l[open]
			open++
		}
	}
	for _, lit := range l[:2] {
		x.watchers[x.top+lit] = append(x.watchers[x.top+lit], id)
	}
	if open < 2 {
		x.require(l[0])
	}
}

// drop removes a clause.
func (x *checker) drop(id int) {
	l := x.clauses[id]
	x.dropped[id] = true
	if len(l) == 0 {
		x.empty--
	}
	open := 0
	for _, lit := range l {
		if !x.isTrue(-lit) {
			open++
		}
	}
	// Only a clause without a choice may have implied something.
	x.stale = x.stale || open < 2
}

// refresh computes the base anew if it may rest on dropped clauses.
func (x *checker) refresh() {
	if !x.stale {
		return
	}
	x.undo(0)
	x.stale, x.failed = false, x.empty > 0
	for _, id := range x.units {
		if !x.dropped[id] {
			x.require(x.clauses[id][0])
		}
	}
}

// follows reports whether a clause follows from the others by reverse unit propagation.
func (x *checker) follows(l []int) bool {
	l, _ = cnf.Norm(l)
	x.refresh()
	if x.failed {
		return true
	}
	base := len(x.trail)
	defer x.undo(base)
	for _, lit := range l {
		if x.isTrue(lit) {
			return true
		}
		if !x.isTrue(-lit) {
			x.assign(-lit)
		}
	}
	return !x.propagate()
}

// propagate makes true what the clauses imply. It reports false if there is a conflict.
func (x *checker) propagate() bool {
restart:
	if x.head == len(x.trail) {
		return true
	}
	lost := -x.trail[x.head]
	x.head++
	list := x.watchers[x.top+lost]
	kept := list[:0]
	for i, id := range list {
		if x.dropped[id] || x.move(id, lost) {
			continue
		}
		kept = append(kept, id)
		first := x.clauses[id][0]
		if x.isTrue(-first) {
			x.watchers[x.top+lost] = append(kept, list[i+1:]...)
			return false
		}
		if !x.isTrue(first) {
			x.assign(first)
		}
	}
	x.watchers[x.top+lost] = kept
	goto restart
}

// move makes a clause watch another literal than the one that is lost, and reports whether it found one. Otherwise it watches the lost one second.
func (x *checker) move(id, lost int) bool {
	l := x.clauses[id]
	if l[0] == lost {
		l[0], l[1] = l[1], l[0]
	}
	if x.isTrue(l[0]) {
		return false
	}
	for i := 2; i < len(l); i++ {
		if !x.isTrue(-l[i]) {
			l[1], l[i] = l[i], l[1]
			x.watchers[x.top+l[1]] = append(x.watchers[x.top+l[1]], id)
			return true
		}
	}
	return false
}
