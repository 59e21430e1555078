package best

import (
	"slices"

	"chalkline/api"
	"chalkline/bulk"
	"chalkline/solver"
	"chalkline/total"
)

// few is a number of variables that certainly have few models.
const few = 10

// What a search panics with when it gives up.
type (
	outOfBudget struct{}
	tooLarge    struct{}
)

// tally counts in unary how many of some soft literals are false; it has only as many outputs as were needed so far.
type tally struct {
	lits, outs []int
}

// place is an output of a tally.
type place struct {
	tally *tally
	at    int
}

// search is the state of a search. Every model of the solver and the assumptions costs at least lower, and as much more as soft literals of the map weigh that are false in it, except that of a tally only the first outputs are in the map.
type search struct {
	api.Solver
	c       api.Cnf
	assume  []int
	all     []api.Soft
	soft    map[int]int   // the weights of soft literals, which are not 0
	places  map[int]place // what the negations of some soft literals are outputs of
	stratum int           // only soft literals of at least this weight are considered
	lower   int
	upper   int    // the cost of the model
	model   []bool // the best model so far, if any
	budget  int
	spent   int
}

// newSearch returns a search that has not begun.
func newSearch(c api.Cnf, assume []int, soft []api.Soft, budget int) *search {
	q := &search{c: c, assume: assume, all: soft, soft: map[int]int{}, places: map[int]place{}, budget: budget}
	for _, x := range soft {
		q.soft[x.Lit] += x.Weight
	}
	assumed := map[int]bool{}
	for _, lit := range assume {
		assumed[lit] = true
	}
	q.each(func(lit, weight int) {
		switch {
		case assumed[lit]:
			delete(q.soft, lit)
		case assumed[-lit]:
			q.lower += weight
			delete(q.soft, lit)
		default:
			// One of two opposite literals is false, whichever it is.
			both := min(weight, q.soft[-lit])
			q.lower += both
			q.lessen(lit, both)
			q.lessen(-lit, both)
		}
	})
	return q
}

// each visits the soft literals in order, with the weights that they have when they are visited.
func (q *search) each(visit func(lit, weight int)) {
	var lits []int
	for lit := range q.soft {
		lits = append(lits, lit)
	}
	slices.Sort(lits)
	for _, lit := range lits {
		visit(lit, q.soft[lit])
	}
}

// lessen takes weight from a soft literal.
func (q *search) lessen(lit, weight int) {
	if q.soft[lit] -= weight; q.soft[lit] == 0 {
		delete(q.soft, lit)
	}
}

// run searches in one of the ways. It reports ErrBound if that needs too many variables or clauses.
func (q *search) run(way func() int) (r api.Result, e api.Errno) {
	defer func() {
		switch p := recover().(type) {
		case nil:
		case outOfBudget:
			r, e = q.result(api.OutA), api.OK
		case tooLarge:
			r, e = api.Result{}, api.ErrBound
		default:
			panic(p)
		}
	}()
	s, e := bulk.New(q.c)
	if e != api.OK {
		return api.Result{}, e
	}
	q.Solver = s
	return q.result(way()), api.OK
}

// result returns the result of a kind.
func (q *search) result(kind int) api.Result {
	r := api.Result{Kind: kind, Spent: q.spent}
	if kind != api.NoA {
		r.Model, r.Cost, r.Lower = q.model, q.upper, q.lower
	}
	return r
}

// solve solves under the assumptions and more literals.
func (q *search) solve(more []int) api.Answer {
	s, a, e := solver.Solve(q.Solver, slices.Concat(q.assume, more), q.budget-q.spent)
	if e != api.OK {
		panic(tooLarge{})
	}
	q.Solver = s
	q.spent += a.Spent
	switch a.Kind {
	case api.OutA:
		panic(outOfBudget{})
	case api.YesA:
		model := a.Model[:q.c.N+1]
		if cost := Cost(q.all, model); q.model == nil || cost < q.upper {
			q.model, q.upper = slices.Clone(model), cost
		}
	}
	return a
}

// add adds clauses over the variables below next.
func (q *search) add(next int, l ...[]int) {
	s, e := bulk.Add(q.Solver, api.Cnf{N: next - 1, L: l})
	if e != api.OK {
		panic(tooLarge{})
	}
	q.Solver = s
}

// byModels goes from model to model until there is none left. There must be one.
func (q *search) byModels() int {
	for {
		a := q.solve(nil)
		if a.Kind == api.NoA {
			q.lower = q.upper
			return api.YesA
		}
		var other []int
		for v := 1; v <= q.c.N; v++ {
			if a.Model[v] {
				other = append(other, -v)
			} else {
				other = append(other, v)
			}
		}
		q.add(q.c.N+1, other)
	}
}

// byCores raises the lower bound from core to core until there is a model that costs no more.
func (q *search) byCores() int {
	if q.solve(nil).Kind == api.NoA {
		return api.NoA
	}
	q.descend()
	for q.lower < q.upper {
		if a := q.solve(q.active()); a.Kind == api.YesA {
			q.descend()
		} else {
			q.relax(q.trimmed(a.Core))
		}
	}
	return api.YesA
}

// active returns the soft literals of the current stratum.
func (q *search) active() []int {
	var l []int
	q.each(func(lit, weight int) {
		if weight >= q.stratum {
			l = append(l, lit)
		}
	})
	return l
}

// descend lowers the stratum such that it has more soft literals, if there are any.
func (q *search) descend() {
	next := 0
	q.each(func(_, weight int) {
		if q.stratum == 0 || weight < q.stratum {
			next = max(next, weight)
		}
	})
	q.stratum = (next + 1) / 2
}

// trimmed returns the soft literals of a core, or of a smaller one if that is found without much ado.
func (q *search) trimmed(core []int) []int {
	core = q.weighty(core)
	for {
		less := q.weighty(q.solve(core).Core)
		if len(less) >= len(core) {
			return core
		}
		core = less
	}
}

// weighty returns the soft literals of a list.
func (q *search) weighty(l []int) []int {
	return slices.DeleteFunc(slices.Clone(l), func(lit int) bool { return q.soft[lit] == 0 })
}

// relax pays for one false literal of a core, and makes the others cost what they did.
func (q *search) relax(core []int) {
	weight := q.upper - q.lower
	for _, lit := range core {
		weight = min(weight, q.soft[lit])
	}
	q.lower += weight
	for _, lit := range core {
		q.lessen(lit, weight)
		if p, ok := q.places[lit]; ok {
			q.charge(p.tally, p.at+1, weight)
		}
	}
	if len(core) > 1 {
		q.charge(&tally{lits: core}, 1, weight)
	}
}

// charge makes it cost weight if more than n of the literals of a tally are false.
func (q *search) charge(t *tally, n, weight int) {
	if n >= len(t.lits) {
		return
	}
	if n >= len(t.outs) {
		var not []int
		for _, lit := range t.lits {
			not = append(not, -lit)
		}
		outs, c, next, e := total.Total(not, 2*n, q.N+1)
		if e != api.OK {
			panic(tooLarge{})
		}
		q.add(next, c...)
		t.outs = outs
	}
	lit := -t.outs[n]
	q.soft[lit] += weight
	q.places[lit] = place{t, n}
}
