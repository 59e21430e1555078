package tidy

// index finds the clauses that contain a clause.
type index struct {
	all   []int
	in    map[int][]int // the clauses that contain a literal
	marks []uint64      // a bit for each literal of a clause, which others may share
}

// newIndex returns the index of a list of clauses.
func newIndex(l [][]int) *index {
	x := &index{in: map[int][]int{}}
	for i, clause := range l {
		x.all, x.marks = append(x.all, i), append(x.marks, 0)
		for _, lit := range clause {
			x.marks[i] |= 1 << (uint(lit*31) % 64)
			if in := x.in[lit]; len(in) == 0 || in[len(in)-1] != i {
				x.in[lit] = append(in, i)
			}
		}
	}
	return x
}

// candidates returns the clauses that contain the rarest literal of a clause. All clauses contain the empty one.
func (x *index) candidates(clause []int) []int {
	best := x.all
	for _, lit := range clause {
		if len(x.in[lit]) < len(best) {
			best = x.in[lit]
		}
	}
	return best
}
