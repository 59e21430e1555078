package elim

import (
	"iter"
	"slices"

	"chalkline/api"
	"chalkline/cnf"
)

// database is a list of clauses. New ones come last, and dropped ones keep their place, so that the order is that of the indices.
type database struct {
	clauses [][]int
	dropped []bool
	size    int           // how many clauses are not dropped
	in      map[int][]int // the clauses that contain a literal, among them dropped ones
}

// newDatabase returns a database of copies of the clauses.
func newDatabase(l [][]int) *database {
	d := &database{in: map[int][]int{}}
	for _, clause := range l {
		d.add(slices.Clone(clause))
	}
	return d
}

// add appends a clause.
func (d *database) add(clause []int) {
	i := len(d.clauses)
	d.clauses, d.dropped = append(d.clauses, clause), append(d.dropped, false)
	d.size++
	for _, lit := range clause {
		if l := d.in[lit]; len(l) == 0 || l[len(l)-1] != i {
			d.in[lit] = append(l, i)
		}
	}
}

// with yields the clauses that contain a literal.
func (d *database) with(lit int) iter.Seq[int] {
	return func(yield func(int) bool) {
		for _, i := range d.in[lit] {
			if !d.dropped[i] && !yield(i) {
				return
			}
		}
	}
}

// containing returns the clauses that contain a variable.
func (d *database) containing(v int) []int {
	var l []int
	for _, lit := range []int{v, -v} {
		for i := range d.with(lit) {
			l = append(l, i)
		}
	}
	slices.Sort(l)
	return slices.Compact(l)
}

// rest returns the clauses that are not dropped.
func (d *database) rest() [][]int {
	var l [][]int
	for i, clause := range d.clauses {
		if !d.dropped[i] {
			l = append(l, clause)
		}
	}
	return l
}

// eliminate eliminates a variable, unless more than most clauses would be left.
func (d *database) eliminate(v, most int) (api.Undo, bool) {
	old := d.containing(v)
	resolvents, ok := d.resolvents(v, most-(d.size-len(old)))
	if !ok {
		return api.Undo{}, false
	}
	u := api.Undo{V: v}
	for _, i := range old {
		u.L = append(u.L, d.clauses[i])
		d.dropped[i] = true
	}
	d.size -= len(old)
	for _, clause := range resolvents {
		d.add(clause)
	}
	return u, true
}

// resolvents returns the resolvents on a variable that are no tautologies, unless there are more than most.
func (d *database) resolvents(v, most int) (l [][]int, ok bool) {
	ok = true
pairs:
	for i := range d.with(v) {
		a := d.clauses[i]
		if slices.Contains(a, -v) {
			continue
		}
		for k := range d.with(-v) {
			b := d.clauses[k]
			if slices.Contains(b, v) {
				continue
			}
			r, _ := cnf.Resolve(a, b, v)
			if _, tautology := cnf.Norm(r); tautology {
				continue
			}
			if l = append(l, r); len(l) > most {
				ok = false
				break pairs
			}
		}
	}
	return l, ok
}
