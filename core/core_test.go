package core_test

import (
	"fmt"
	"reflect"
	"slices"
	"testing"

	"chalkline/api"
	"chalkline/bulk"
	"chalkline/cnf"
	"chalkline/core"
	"chalkline/sample"
	"chalkline/solver"
)

const (
	far  = 1<<63 - 1
	most = 1 << 40
)

func formula(n int, l ...[]int) api.Cnf { return api.Cnf{N: n, L: l} }

// holds reports whether a literal is true under a.
func holds(lit int, a []bool) bool { return a[max(lit, -lit)] == (lit > 0) }

// allHold reports whether a is a model of c in which the literals are true.
func allHold(c api.Cnf, a []bool, lits []int) bool {
	return cnf.Value(c, a) && !slices.ContainsFunc(lits, func(lit int) bool { return !holds(lit, a) })
}

// satisfiable tries all assignments, or solves if there are too many.
func satisfiable(c api.Cnf, lits ...int) bool {
	if c.N > 16 {
		s, _ := bulk.New(c)
		_, a, e := solver.Solve(s, lits, most)
		return e == api.OK && a.Kind == api.YesA
	}
	for bits := range 1 << c.N {
		a := make([]bool, c.N+1)
		for v := range c.N {
			a[v+1] = bits>>v&1 == 1
		}
		if allHold(c, a, lits) {
			return true
		}
	}
	return false
}

func without(l []int, x int) []int {
	return slices.DeleteFunc(slices.Clone(l), func(y int) bool { return y == x })
}

// inOrder reports whether l is a part of m in its order.
func inOrder(l, m []int) bool {
	for _, x := range m {
		if len(l) > 0 && l[0] == x {
			l = l[1:]
		}
	}
	return len(l) == 0
}

// wrongLeast tells what an answer of Least has wrong.
func wrongLeast(c api.Cnf, assume []int, budget int, a api.Answer) string {
	switch {
	case a.Spent < 0 || a.Spent > budget || a.Kind == api.OutA && a.Spent != budget:
		return "spent"
	case !inOrder(a.Core, assume):
		return "order"
	case a.Kind == api.YesA:
		if len(a.Model) != c.N+1 || a.Model[0] || !allHold(c, a.Model, assume) || len(a.Core) > 0 {
			return "model"
		}
		return ""
	case len(a.Model) > 0:
		return "model beside a core"
	case a.Kind == api.OutA:
		if len(a.Core) > 0 && satisfiable(c, a.Core...) {
			return "not a core"
		}
		return ""
	case a.Kind != api.NoA:
		return "kind"
	case satisfiable(c, a.Core...):
		return "not a core"
	}
	for _, x := range a.Core {
		if !satisfiable(c, without(a.Core, x)...) {
			return "not minimal"
		}
	}
	return ""
}

// wrongGrow tells what an answer of Grow has wrong.
func wrongGrow(c api.Cnf, keep, assume []int, budget int, a api.Answer) string {
	if a.Spent < 0 || a.Spent > budget || a.Kind == api.OutA && a.Spent != budget {
		return "spent"
	}
	if a.Kind == api.NoA {
		if !inOrder(a.Core, keep) || satisfiable(c, a.Core...) || len(a.Model) > 0 {
			return "not a core"
		}
		return ""
	}
	if a.Kind == api.OutA && len(a.Model)+len(a.Core) == 0 {
		return ""
	}
	if a.Kind != api.YesA && a.Kind != api.OutA || len(a.Model) != c.N+1 || a.Model[0] || !allHold(c, a.Model, keep) {
		return "model"
	}
	var isTrue, isFalse []int
	for _, x := range assume {
		if holds(x, a.Model) {
			isTrue = append(isTrue, x)
		} else {
			isFalse = append(isFalse, x)
		}
	}
	if !slices.Equal(isFalse, a.Core) {
		return "not the false ones"
	}
	for _, x := range isFalse {
		if a.Kind == api.YesA && satisfiable(c, slices.Concat(keep, isTrue, []int{x})...) {
			return "not maximal"
		}
	}
	return ""
}

func TestLeast(t *testing.T) {
	for i, x := range []struct {
		c      api.Cnf
		assume []int
		kind   int
		core   []int
	}{
		{formula(3, []int{-1, -2}), []int{1, 2, 3}, api.NoA, []int{1, 2}}, {formula(3, []int{-1, -2}), []int{3, 2, 1}, api.NoA, []int{2, 1}}, {formula(3, []int{-1, -2}), []int{3, -2, 1}, api.YesA, nil}, {formula(3), nil, api.YesA, nil}, {formula(0, []int{}), nil, api.NoA, nil}, {formula(2, []int{1}, []int{-1}), []int{2}, api.NoA, nil}, {formula(2, []int{-1}), []int{2, 1}, api.NoA, []int{1}},
		{formula(4, []int{-1, 2}, []int{-2, 3}, []int{-3, -4}), []int{4, 1}, api.NoA, []int{4, 1}},
	} {
		a, e := core.Least(x.c, x.assume, 1<<30)
		if e != api.OK || a.Kind != x.kind || !slices.Equal(a.Core, x.core) || wrongLeast(x.c, x.assume, 1<<30, a) != "" {
			t.Errorf("%d: %v, %d", i, a, e)
		}
	}
}

func TestGrow(t *testing.T) {
	for i, x := range []struct {
		c            api.Cnf
		keep, assume []int
		kind         int
		core         []int
	}{
		{formula(3, []int{-1, -2}), []int{1}, []int{2, 3}, api.YesA, []int{2}}, {formula(3, []int{-1, -2}), []int{2, 3}, []int{1}, api.YesA, []int{1}}, {formula(3, []int{-1, -2}), []int{3, 1, 2}, nil, api.NoA, []int{1, 2}}, {formula(3, []int{-1, -2}), nil, []int{-1, -2, -3}, api.YesA, nil}, {formula(3), nil, nil, api.YesA, nil}, {formula(0, []int{}), nil, nil, api.NoA, nil}, {formula(2, []int{1}, []int{-1}), nil, []int{2}, api.NoA, nil}, {formula(2, []int{-1}), nil, []int{1, 2}, api.YesA, []int{1}},
		{formula(4, []int{-1}, []int{-2}, []int{-3}), []int{4}, []int{3, 2, 1}, api.YesA, []int{3, 2, 1}},
	} {
		a, e := core.Grow(x.c, x.keep, x.assume, 1<<30)
		if e != api.OK || a.Kind != x.kind || !slices.Equal(a.Core, x.core) || wrongGrow(x.c, x.keep, x.assume, 1<<30, a) != "" {
			t.Errorf("%d: %v, %d", i, a, e)
		}
	}
}

func TestErrors(t *testing.T) {
	ok := formula(3, []int{1, 2})
	for i, x := range []struct {
		c            api.Cnf
		keep, assume []int
		budget       int
		e            api.Errno
	}{
		{ok, nil, []int{1, -2, 3}, 0, api.OK}, {ok, []int{3, -1}, []int{-2}, most, api.OK}, {ok, nil, nil, -1, api.ErrArg}, {ok, nil, nil, most + 1, api.ErrArg}, {ok, nil, nil, far, api.ErrArg}, {ok, nil, nil, -far - 1, api.ErrArg}, {ok, nil, []int{0}, 5, api.ErrArg}, {ok, nil, []int{4}, 5, api.ErrArg}, {ok, nil, []int{-4}, 5, api.ErrArg}, {ok, nil, []int{far}, 5, api.ErrArg}, {ok, nil, []int{-far - 1}, 5, api.ErrArg},
		{ok, nil, []int{1, 1}, 5, api.ErrArg}, {ok, nil, []int{1, 2, -1}, 5, api.ErrArg}, {ok, []int{1}, []int{1}, 5, api.ErrArg}, {ok, []int{1}, []int{2, -1}, 5, api.ErrArg}, {ok, []int{2, 2}, nil, 5, api.ErrArg}, {ok, []int{0}, nil, 5, api.ErrArg}, {ok, []int{4}, nil, 5, api.ErrArg}, {formula(1, []int{2}), nil, nil, 5, api.ErrArg}, {formula(-1), nil, nil, 5, api.ErrArg}, {formula(1, make([][]int, 65537)...), nil, []int{0}, -1, api.ErrBound},
	} {
		if a, e := core.Grow(x.c, x.keep, x.assume, x.budget); e != x.e || e != api.OK && !reflect.DeepEqual(a, api.Answer{}) {
			t.Errorf("%d: Grow reports %d, want %d", i, e, x.e)
		}
		if a, e := core.Least(x.c, slices.Concat(x.keep, x.assume), x.budget); e != x.e || e != api.OK && !reflect.DeepEqual(a, api.Answer{}) {
			t.Errorf("%d: Least reports %d, want %d", i, e, x.e)
		}
	}
}

// problem makes a formula and a shuffled list of literals.
func problem(r *sample.Source) (c api.Cnf, lits []int) {
	c.N = 1 + r.Below(9)
	for range r.Below(3*c.N + 1) {
		var l []int
		for range 1 + r.Below(4) {
			l = append(l, (1+r.Below(c.N))*(1-2*r.Below(2)))
		}
		c.L = append(c.L, l)
	}
	for v := 1; v <= c.N; v++ {
		if k := r.Below(5); k < 4 {
			lits = append(lits, v*(k%2*2-1))
		}
	}
	for i := range lits {
		k := r.Below(i + 1)
		lits[i], lits[k] = lits[k], lits[i]
	}
	return c, lits
}

func TestRandomProblems(t *testing.T) {
	r := sample.New(1)
	least, grown, long := map[int]int{}, map[int]int{}, 0
	for range 3000 {
		c, lits := problem(r)
		budget := []int{0, 1, 2, 5, 1 << 30, 1 << 30, 1 << 30}[r.Below(7)]
		old := fmt.Sprint(c, lits)
		a, e := core.Least(c, lits, budget)
		if w := wrongLeast(c, lits, budget, a); w != "" || e != api.OK {
			t.Fatalf("Least %v, %v, %d: %v, %d: %s", c, lits, budget, a, e, w)
		}
		k := r.Below(len(lits) + 1)
		g, e := core.Grow(c, lits[:k], lits[k:], budget)
		if w := wrongGrow(c, lits[:k], lits[k:], budget, g); w != "" || e != api.OK {
			t.Fatalf("Grow %v, %v, %v, %d: %v, %d: %s", c, lits[:k], lits[k:], budget, g, e, w)
		}
		if fmt.Sprint(c, lits) != old {
			t.Fatal("an argument was changed")
		}
		least[a.Kind]++
		grown[g.Kind]++
		if len(g.Core) > 1 {
			long++
		}
		if budget < 1<<30 {
			continue
		}
		if a.Kind == api.OutA || g.Kind == api.OutA {
			t.Fatal("out of a budget that is large enough", c, lits)
		}
		if again, _ := core.Least(c, a.Core, budget); a.Kind == api.NoA && (again.Kind != api.NoA || !slices.Equal(again.Core, a.Core)) {
			t.Fatal("a minimal core has a smaller one", c, a, again)
		}
		if again, _ := core.Grow(c, lits[:k], lits[k:], budget); !reflect.DeepEqual(g, again) {
			t.Fatal("equal calls differ")
		}
	}
	if least[api.YesA] < 300 || least[api.NoA] < 300 || least[api.OutA] < 20 || grown[api.YesA] < 300 || grown[api.NoA] < 100 || grown[api.OutA] < 20 || long < 100 {
		t.Error(least, grown, long)
	}
}

// Four pigeons, each of which insists on a hole if its literal is true, and three holes. Some budgets end in the middle.
func TestBudgets(t *testing.T) {
	c := formula(16)
	for p := range 4 {
		l := []int{-13 - p}
		for h := range 3 {
			l = append(l, 1+3*p+h)
			for q := range p {
				c.L = append(c.L, []int{-1 - 3*p - h, -1 - 3*q - h})
			}
		}
		c.L = append(c.L, l)
	}
	lits := []int{13, 14, 15, 16}
	out, some, none := 0, 0, 0
	for budget := range 60 {
		a, e := core.Least(c, lits, budget)
		if w := wrongLeast(c, lits, budget, a); w != "" || e != api.OK {
			t.Fatalf("Least with %d: %v, %d: %s", budget, a, e, w)
		}
		if a.Kind == api.NoA && len(a.Core) != 4 {
			t.Fatal(a)
		}
		for k := range 5 {
			g, e := core.Grow(c, lits[:k], lits[k:], budget)
			if w := wrongGrow(c, lits[:k], lits[k:], budget, g); w != "" || e != api.OK {
				t.Fatalf("Grow with %d: %v, %d: %s", budget, g, e, w)
			}
			if g.Kind == api.OutA {
				out++
			}
			if k == 4 && g.Kind == api.YesA || k < 4 && g.Kind == api.NoA {
				t.Fatal(k, g)
			}
		}
		if a.Kind == api.OutA && len(a.Core) > 0 {
			some++
		} else if a.Kind == api.OutA {
			none++
		}
	}
	if out == 0 || none == 0 {
		t.Error(out, some, none)
	}
}

// The second literal is shut out by the third at once, but only after a search by the first, with which the third agrees.
func TestGrowAddsWhatItLeftOut(t *testing.T) {
	c := formula(9, []int{-2, -3})
	for signs := range 16 {
		sign := func(v int) int { return v * (1 - 2*(signs>>(v-6)&1)) }
		c.L = append(c.L, []int{-1, -2, sign(6), sign(7), sign(8), sign(9)})
	}
	grow := func(c api.Cnf, lits []int, budget int) {
		g, e := core.Grow(c, nil, lits, budget)
		if w := wrongGrow(c, nil, lits, budget, g); w != "" || e != api.OK {
			t.Fatalf("Grow of %v with %d: %v, %d: %s", lits, budget, g, e, w)
		}
	}
	for budget := range 40 {
		for _, lits := range [][]int{{1, 2, 3}, {3, 2, 1}, {2, 1, 3}, {1, 3, 2}, {3, 1, 2}} {
			grow(c, lits, budget)
		}
	}
	// To find that the first and the third agree takes a search as well.
	r := sample.New(2)
	for range 20 {
		d := formula(40, c.L...)
		for range 120 {
			l := []int{-1, -3}
			for range 3 {
				l = append(l, (10+r.Below(31))*(1-2*r.Below(2)))
			}
			d.L = append(d.L, l)
		}
		for budget := range 40 {
			grow(d, []int{1, 2, 3}, budget)
		}
	}
}

// Hundreds of assumptions, of which pairs of neighbours exclude each other.
func TestManyAssumptions(t *testing.T) {
	n := 300
	c := formula(n)
	var lits []int
	for v := 1; v <= n; v++ {
		if lits = append(lits, v); v > 1 {
			c.L = append(c.L, []int{-v, 1 - v})
		}
	}
	a, e := core.Least(c, lits, 1<<40)
	if e != api.OK || a.Kind != api.NoA || len(a.Core) != 2 || a.Core[1] != a.Core[0]+1 {
		t.Error(a.Kind, a.Core, e)
	}
	g, e := core.Grow(c, []int{7}, without(lits, 7), 1<<40)
	if e != api.OK || g.Kind != api.YesA || !slices.Contains(g.Core, 6) || !slices.Contains(g.Core, 8) || len(g.Core) < n/2-1 || !cnf.Value(c, g.Model) {
		t.Error(g.Kind, g.Core, e)
	}
}
