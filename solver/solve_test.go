package solver_test

import (
	"cmp"
	"fmt"
	"reflect"
	"slices"
	"testing"

	"chalkline/api"
	"chalkline/cnf"
	"chalkline/proof"
	"chalkline/sample"
	"chalkline/solver"
)

// made returns a solver with n variables and the clauses.
func made(t *testing.T, n int, l ...[]int) api.Solver {
	s, e := solver.New(n)
	for _, x := range l {
		if e == api.OK {
			s, e = solver.Add(s, x)
		}
	}
	if e != api.OK {
		t.Fatal(e)
	}
	return s
}

// holds reports whether a literal is true under a.
func holds(lit int, a []bool) bool { return a[max(lit, -lit)] == (lit > 0) }

// satisfiable tries all assignments.
func satisfiable(n int, l [][]int, lits []int) bool {
	for bits := range 1 << n {
		a := make([]bool, n+1)
		for v := range n {
			a[v+1] = bits>>v&1 == 1
		}
		if cnf.Value(api.Cnf{N: n, L: l}, a) && !slices.ContainsFunc(lits, func(lit int) bool { return !holds(lit, a) }) {
			return true
		}
	}
	return false
}

// wrong tells what an answer has wrong, as far as that can be told without trying all assignments.
func wrong(s, x api.Solver, assume []int, budget int, a api.Answer) string {
	given := api.Cnf{N: s.N, L: s.Given}
	switch {
	case solver.Check(x) != api.OK:
		return "the solver is not valid"
	case x.N != s.N || fmt.Sprint(x.Given) != fmt.Sprint(s.Given):
		return "the clauses changed"
	case len(x.Proof) < len(s.Proof) || fmt.Sprint(x.Proof[:len(s.Proof)]) != fmt.Sprint(s.Proof):
		return "the proof is not continued"
	case a.Spent < 0 || a.Spent > budget:
		return "spent too much"
	}
	switch a.Kind {
	case api.YesA:
		if len(a.Model) != s.N+1 || a.Model[0] || !cnf.Value(given, a.Model) || slices.ContainsFunc(assume, func(lit int) bool { return !holds(lit, a.Model) }) {
			return "not a model"
		}
		if len(a.Core) > 0 {
			return "a core beside a model"
		}
	case api.NoA:
		for i, lit := range a.Core {
			if !slices.Contains(assume, lit) || slices.Contains(a.Core[:i], lit) {
				return "not a set of assumptions"
			}
		}
		if e := proof.Check(given, x.Proof, a.Core); e != api.OK && (e != api.ErrBound || len(x.Proof) <= 65536) {
			return "the proof is not accepted"
		}
		if len(a.Model) > 0 {
			return "a model beside a core"
		}
	case api.OutA:
		if a.Spent != budget || len(a.Core)+len(a.Model) > 0 {
			return "not out of budget"
		}
	default:
		return "no kind"
	}
	return ""
}

// solve solves and checks the answer.
func solve(t *testing.T, s api.Solver, assume []int, budget int) (api.Solver, api.Answer) {
	x, a, e := solver.Solve(s, assume, budget)
	if e != api.OK {
		t.Fatal(s, assume, budget, e)
	}
	if w := wrong(s, x, assume, budget, a); w != "" {
		t.Fatalf("%v, assuming %v with %d: %v: %s", s.Given, assume, budget, a, w)
	}
	return x, a
}

func TestSolve(t *testing.T) {
	four := [][]int{{1, 2}, {-1, 2}, {1, -2}, {-1, -2}}
	for i, x := range []struct {
		n      int
		l      [][]int
		assume []int
		kind   int
	}{
		{0, nil, nil, api.YesA}, {0, [][]int{{}}, nil, api.NoA}, {2, four[:2], nil, api.YesA}, {2, four, nil, api.NoA}, {2, four, []int{1, -2}, api.NoA}, {2, four[:2], []int{1, -2}, api.NoA}, {2, four[:2], []int{2, -1}, api.YesA}, {3, nil, []int{-3, 1}, api.YesA},
		{1, [][]int{{1}, {-1}}, nil, api.NoA}, {1, [][]int{{1, 1, 1}}, nil, api.YesA}, {1, [][]int{{1, -1}}, []int{-1}, api.YesA}, {1, [][]int{{1}}, []int{-1}, api.NoA}, {3, [][]int{{-1, -2}}, []int{3, 1, 2}, api.NoA}, {3, [][]int{{-1, -2}}, []int{3, 1, -2}, api.YesA}, {4, [][]int{{-1, 2}, {-2, 3}}, []int{4, 1, -3}, api.NoA},
		{2, [][]int{{}}, []int{1, 2}, api.NoA}, {2, [][]int{{1}, {-1}}, []int{2}, api.NoA}, {3, [][]int{{1, 1, 2}, {1, -2, -2}, {-1, 3, 3}}, nil, api.YesA}, {3, [][]int{{1, 1, 2}, {1, -2, -2}, {-1, 3, 3}}, []int{-3}, api.NoA}, {3, [][]int{{1, 1, 2}, {1, -2, -2}, {-1, 3, 3}}, []int{2, 3, 1}, api.YesA},
	} {
		y, a := solve(t, made(t, x.n, x.l...), x.assume, 100)
		if a.Kind != x.kind || a.Kind == api.NoA && satisfiable(x.n, x.l, a.Core) {
			t.Errorf("%d: %v", i, a)
		}
		if _, again := solve(t, y, x.assume, 100); again.Kind != a.Kind {
			t.Errorf("%d, again: %v", i, again)
		}
	}
	if _, a := solve(t, made(t, 2, four[:2]...), []int{1, -2}, 100); !slices.Contains(a.Core, -2) {
		t.Error("the chapter's example", a)
	}
	if _, a := solve(t, made(t, 2, four[:2]...), nil, 100); !a.Model[2] {
		t.Error("the chapter's example", a)
	}
	if _, a := solve(t, made(t, 2, four...), nil, 0); a.Kind != api.OutA {
		t.Error("a search that meets a conflict without a budget", a)
	}
}

func clause(r *sample.Source, n int) (l []int) {
	for range 1 + r.Below(3) + r.Below(2)*r.Below(3) {
		l = append(l, (1+r.Below(n))*(1-2*r.Below(2)))
	}
	return l
}

func assumptions(r *sample.Source, n int) (l []int) {
	for v := 1; v <= n; v++ {
		if k := r.Below(6); k < 2 {
			l = append(l, v*(2*k-1))
		}
	}
	for i := range l {
		k := r.Below(i + 1)
		l[i], l[k] = l[k], l[i]
	}
	return l
}

// Solvers of few variables are used again and again while clauses and variables are added.
func TestManySearches(t *testing.T) {
	r := sample.New(1)
	kinds := map[int]int{}
	for range 300 {
		n := 1 + r.Below(6)
		s := made(t, n)
		for range 12 {
			for range r.Below(2 * n) {
				s, _ = solver.Add(s, clause(r, n))
			}
			if r.Chance(5) && n < 9 {
				n++
				s, _ = solver.Grow(s, n)
			}
			assume := assumptions(r, n)
			budget := []int{0, 1, 3, 1 << (2 * n)}[r.Below(4)]
			x, a := solve(t, s, assume, budget)
			kinds[a.Kind]++
			if a.Kind == api.OutA && budget == 1<<(2*n) {
				t.Fatal("out of a budget that is large enough", s.Given, assume)
			}
			if a.Kind != api.OutA && (a.Kind == api.YesA) != satisfiable(n, s.Given, assume) {
				t.Fatal(s.Given, assume, a)
			}
			if a.Kind == api.NoA && satisfiable(n, s.Given, a.Core) {
				t.Fatal("not a core", s.Given, assume, a)
			}
			implied(t, x)
			s = x
		}
	}
	if kinds[api.YesA] < 300 || kinds[api.NoA] < 300 || kinds[api.OutA] < 100 {
		t.Error(kinds)
	}
}

// implied checks that the given clauses imply the learnt ones.
func implied(t *testing.T, s api.Solver) {
	for _, x := range s.Learnt {
		var not []int
		for _, lit := range x.L {
			if slices.Contains(x.L, -lit) {
				return
			}
			not = append(not, -lit)
		}
		if satisfiable(s.N, s.Given, not) {
			t.Fatal("learnt what does not follow", s.Given, x)
		}
	}
}

// Solvers that no calls have made get an answer as well, whatever it is worth.
func TestOtherValidSolvers(t *testing.T) {
	r := sample.New(3)
	for range 500 {
		n := 1 + r.Below(5)
		s := made(t, n)
		for range r.Below(6) {
			s.Given = append(s.Given, clause(r, n))
			s.Learnt = append(s.Learnt, api.Learnt{L: clause(r, n), Levels: r.Below(9), Act: r.Below(1 << 40)})
			s.Proof = append(s.Proof, api.Line{Kind: 1 + r.Below(3), L: clause(r, n)})
		}
		for v := 1; v <= n; v++ {
			s.Phase[v], s.Heap.Act[v] = r.Chance(2), 1<<40-r.Below(5)
		}
		slices.SortFunc(s.Heap.L, func(a, b int) int { return cmp.Or(s.Heap.Act[b]-s.Heap.Act[a], a-b) })
		s.Heap.By = 1 + r.Below(1<<40)
		x, a, e := solver.Solve(s, assumptions(r, n), 1<<20)
		if e != api.OK || solver.Check(s) != api.OK || solver.Check(x) != api.OK || a.Kind < api.YesA || a.Kind > api.NoA {
			t.Fatal(s, x, a, e)
		}
	}
}

// pigeons says that p pigeons have a hole each of h, no two the same.
func pigeons(p, h int) (c api.Cnf) {
	c.N = p * h
	for i := range p {
		var l []int
		for k := range h {
			l = append(l, 1+i*h+k)
			for other := range i {
				c.L = append(c.L, []int{-1 - i*h - k, -1 - other*h - k})
			}
		}
		c.L = append(c.L, l)
	}
	return c
}

func TestPigeons(t *testing.T) {
	for h := 1; h <= 7; h++ {
		if _, a := solve(t, made(t, h*h, pigeons(h, h).L...), nil, 1<<40); a.Kind != api.YesA {
			t.Error(h, a)
		}
		c := pigeons(h+1, h)
		x, a := solve(t, made(t, c.N, c.L...), nil, 1<<40)
		if a.Kind != api.NoA || len(a.Core) > 0 {
			t.Error(h, a)
		}
		if _, a := solve(t, x, []int{1}, 1<<40); a.Kind != api.NoA {
			t.Error(h, a)
		}
	}
}

// Budgets from nothing up: the search goes on from where it stopped, and in the end has an answer.
func TestSmallBudgets(t *testing.T) {
	c := pigeons(6, 5)
	s := made(t, c.N, c.L...)
	total := 0
	for budget := 0; ; budget++ {
		x, a := solve(t, s, nil, budget)
		total += a.Spent
		if s = x; a.Kind != api.OutA {
			if a.Kind != api.NoA {
				t.Error(a)
			}
			break
		}
		if budget > 2000 {
			t.Fatal("no answer")
		}
	}
	if total < 20 {
		t.Error(total)
	}
}

func TestRandomTriples(t *testing.T) {
	r := sample.New(2)
	kinds := map[int]int{}
	for k := range 60 {
		n := 40 + 2*k
		s := made(t, n)
		var l [][]int
		for range n * 43 / 10 {
			x := []int{(1 + r.Below(n)) * (1 - 2*r.Below(2)), (1 + r.Below(n)) * (1 - 2*r.Below(2)), (1 + r.Below(n)) * (1 - 2*r.Below(2))}
			l = append(l, x)
		}
		for _, x := range l[:n] {
			s, _ = solver.Add(s, x)
		}
		s, _ = solve(t, s, nil, 1<<40)
		for _, x := range l[n:] {
			s, _ = solver.Add(s, x)
		}
		x, a := solve(t, s, assumptions(r, 6), 1<<40)
		_, b := solve(t, x, nil, 1<<40)
		if kinds[b.Kind]++; a.Kind == api.OutA || b.Kind == api.OutA || a.Kind == api.YesA && b.Kind != api.YesA {
			t.Fatal(n, a.Kind, b.Kind)
		}
	}
	if kinds[api.YesA] < 5 || kinds[api.NoA] < 5 {
		t.Error(kinds)
	}
}

// So many conflicts that clauses are dropped on the way.
func TestLongSearch(t *testing.T) {
	c := pigeons(9, 8)
	s := made(t, c.N, c.L...)
	if _, a := solve(t, s, nil, 1<<40); a.Kind != api.NoA {
		t.Error(a)
	}
}

func TestLargeFormulas(t *testing.T) {
	n := 65536
	s, e := solver.New(n)
	if e != api.OK {
		t.Fatal(e)
	}
	for i := 1; i < n; i++ {
		// What Add would do, one clause after the other.
		l := []int{-i, i + 1}
		s.Given, s.Proof = append(s.Given, l), append(s.Proof, api.Line{Kind: api.GivenP, L: l})
	}
	if _, a := solve(t, s, []int{1, -n}, 10); a.Kind != api.NoA || len(a.Core) != 2 {
		t.Error(a.Kind, a.Core)
	}
	if _, a := solve(t, s, []int{1}, 10); a.Kind != api.YesA || !a.Model[n] {
		t.Error(a.Kind)
	}
	s, e = solver.Add(s, []int{1})
	if _, a := solve(t, s, []int{5, -n}, 10); a.Kind != api.NoA || e != api.OK || !reflect.DeepEqual(a.Core, []int{-n}) {
		t.Error(a.Kind, a.Core, e)
	}
	if x, e := solver.Add(s, nil); e != api.ErrBound || !none(x) {
		t.Error(e)
	}
}
