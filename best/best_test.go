package best_test

import (
	"fmt"
	"reflect"
	"slices"
	"testing"

	"chalkline/api"
	"chalkline/best"
	"chalkline/cnf"
	"chalkline/sample"
)

const (
	far  = 1<<63 - 1
	most = 1 << 40
)

func formula(n int, l ...[]int) api.Cnf { return api.Cnf{N: n, L: l} }

// soft returns soft literals from literals and weights, in turn.
func soft(l ...int) (out []api.Soft) {
	for i := 0; i < len(l); i += 2 {
		out = append(out, api.Soft{Lit: l[i], Weight: l[i+1]})
	}
	return out
}

func TestCheck(t *testing.T) {
	for i, x := range []struct {
		c    api.Cnf
		soft []api.Soft
		e    api.Errno
	}{
		{formula(2), nil, api.OK}, {formula(2), soft(1, 0, -2, most, 1, 5, -1, 3), api.OK}, {formula(2), soft(0, 1), api.ErrArg}, {formula(2), soft(3, 1), api.ErrArg}, {formula(2), soft(1, 1, -3, 1), api.ErrArg}, {formula(2), soft(far, 1), api.ErrArg}, {formula(2), soft(-far-1, 1), api.ErrArg},
		{formula(2), soft(1, -1), api.ErrArg}, {formula(2), soft(1, most+1), api.ErrArg}, {formula(2), soft(1, far), api.ErrArg}, {formula(2), soft(1, -far-1), api.ErrArg}, {formula(2), slices.Repeat(soft(1, 1), 4096), api.OK}, {formula(2), slices.Repeat(soft(1, 1), 4097), api.ErrBound}, {formula(2), append(slices.Repeat(soft(1, 1), 4097), soft(3, 1)...), api.ErrArg},
		{formula(2, []int{3}), soft(3, 1), api.ErrArg}, {formula(-1), nil, api.ErrArg}, {formula(1, make([][]int, 65537)...), soft(5, 5), api.ErrBound},
	} {
		if e := best.Check(x.c, x.soft); e != x.e {
			t.Errorf("%d: %d, want %d", i, e, x.e)
		}
		if r, e := best.Best(x.c, []int{9}, x.soft, -1); x.e != api.OK && e != x.e || x.e == api.OK && e != api.ErrArg || !reflect.DeepEqual(r, api.Result{}) {
			t.Errorf("%d: Best reports %d", i, e)
		}
	}
}

func TestCost(t *testing.T) {
	a := []bool{true, true, false}
	for i, x := range []struct {
		soft []api.Soft
		want int
	}{
		{nil, 0}, {soft(1, 5), 0}, {soft(-1, 5), 5}, {soft(2, 5), 5}, {soft(-2, 5), 0}, {soft(3, 5, -3, 2), 5}, {soft(1, 5, 2, 7, 2, 1, -1, 2), 10}, {soft(0, 3, 65537, 4, -65537, 8, far, 16, -far-1, 32), 63}, {soft(2, far, 2, 1), -far - 1}, {soft(2, -5, 2, 3), -2}, {soft(2, most, 2, most), 2 * most},
	} {
		if n := best.Cost(x.soft, a); n != x.want {
			t.Errorf("%d: %d", i, n)
		}
	}
	if n := best.Cost(soft(1, 1, -1, 2), nil); n != 1 {
		t.Error(n)
	}
}

func TestBestErrors(t *testing.T) {
	c := formula(3)
	for i, x := range []struct {
		assume []int
		budget int
		e      api.Errno
	}{
		{nil, 0, api.OK}, {[]int{1, -2, 3}, most, api.OK}, {nil, -1, api.ErrArg}, {nil, most + 1, api.ErrArg}, {nil, far, api.ErrArg}, {nil, -far - 1, api.ErrArg}, {[]int{0}, 5, api.ErrArg}, {[]int{4}, 5, api.ErrArg}, {[]int{-4}, 5, api.ErrArg}, {[]int{far}, 5, api.ErrArg}, {[]int{-far - 1}, 5, api.ErrArg}, {[]int{1, 1}, 5, api.ErrArg}, {[]int{1, 2, -1}, 5, api.ErrArg},
	} {
		if r, e := best.Best(c, x.assume, soft(1, 1), x.budget); e != x.e || e != api.OK && !reflect.DeepEqual(r, api.Result{}) {
			t.Errorf("%d: %d, want %d", i, e, x.e)
		}
	}
}

// models returns all models in which the literals are true.
func models(c api.Cnf, lits []int) (l [][]bool) {
	for bits := range 1 << c.N {
		a := make([]bool, c.N+1)
		for v := range c.N {
			a[v+1] = bits>>v&1 == 1
		}
		if cnf.Value(c, a) && !slices.ContainsFunc(lits, func(lit int) bool { return a[max(lit, -lit)] != (lit > 0) }) {
			l = append(l, a)
		}
	}
	return l
}

// cost computes the cost in the chapter's words.
func cost(s []api.Soft, a []bool) int {
	n := 0
	for _, x := range s {
		if a[max(x.Lit, -x.Lit)] != (x.Lit > 0) {
			n += x.Weight
		}
	}
	return n
}

// wrong tells what a result has wrong; all are the models.
func wrong(c api.Cnf, all [][]bool, s []api.Soft, budget int, r api.Result) string {
	least := -1
	for _, a := range all {
		if n := cost(s, a); least < 0 || n < least {
			least = n
		}
	}
	isModel := slices.ContainsFunc(all, func(a []bool) bool { return slices.Equal(a, r.Model) })
	if r.Spent < 0 || r.Spent > budget {
		return "spent too much"
	}
	switch r.Kind {
	case api.YesA:
		if !isModel || r.Cost != cost(s, r.Model) || r.Cost != least || r.Lower != least {
			return "not the optimum"
		}
	case api.NoA:
		if len(all) > 0 || len(r.Model) > 0 || r.Cost != 0 || r.Lower != 0 {
			return "there is a model"
		}
	case api.OutA:
		switch {
		case r.Spent != budget:
			return "budget left"
		case r.Lower < 0 || len(all) > 0 && r.Lower > least:
			return "not a lower bound"
		case len(r.Model) > 0 && (!isModel || r.Cost != cost(s, r.Model)) || len(r.Model) == 0 && r.Cost != 0:
			return "not a model of that cost"
		}
	default:
		return "no kind"
	}
	return ""
}

func TestBest(t *testing.T) {
	c := formula(3, []int{-1, -2}, []int{-2, -3})
	s := soft(1, 2, 2, 3, 3, 2)
	for i, x := range []struct {
		c      api.Cnf
		assume []int
		s      []api.Soft
		kind   int
		cost   int
	}{
		{c, nil, s, api.YesA, 3}, {c, []int{2}, s, api.YesA, 4}, {c, []int{1, 2}, s, api.NoA, 0}, {c, []int{-1, -2, -3}, s, api.YesA, 7}, {c, nil, nil, api.YesA, 0}, {formula(0), nil, nil, api.YesA, 0}, {formula(0, []int{}), nil, nil, api.NoA, 0}, {formula(1), nil, soft(1, 5, -1, 3), api.YesA, 3}, {formula(1), nil, soft(1, 5, -1, 3, -1, 4), api.YesA, 5}, {formula(1), nil, soft(1, 0, -1, 0), api.YesA, 0}, {formula(1, []int{1}), nil, soft(-1, most, -1, most), api.YesA, 2 * most},
		{formula(2, []int{1, 2}, []int{-1, -2}), nil, soft(1, most, 2, most, -1, 1, -2, 2), api.YesA, most + 1}, {formula(1), []int{-1}, soft(1, 5, -1, 3, 1, 1), api.YesA, 6}, {formula(2, []int{1}, []int{-1}), nil, soft(2, 1), api.NoA, 0}, {formula(4, []int{-1, -2, -3, -4}), nil, soft(1, 7, 2, 7, 3, 7, 4, 6), api.YesA, 6},
	} {
		r, e := best.Best(x.c, x.assume, x.s, 1<<30)
		if e != api.OK || r.Kind != x.kind || r.Cost != x.cost {
			t.Errorf("%d: %v, %d", i, r, e)
		}
		if w := wrong(x.c, models(x.c, x.assume), x.s, 1<<30, r); w != "" {
			t.Errorf("%d: %v: %s", i, r, w)
		}
	}
}

func random(r *sample.Source, n, clauses int) api.Cnf {
	c := api.Cnf{N: n}
	for range r.Below(clauses + 1) {
		var l []int
		for range 1 + r.Below(4) {
			l = append(l, (1+r.Below(n))*(1-2*r.Below(2)))
		}
		c.L = append(c.L, l)
	}
	return c
}

func TestRandomProblems(t *testing.T) {
	r := sample.New(1)
	kinds := map[int]int{}
	for round := range 1500 {
		n := 1 + r.Below(10)
		if round%10 == 0 {
			n = 11 + r.Below(3)
		}
		c := random(r, n, 3*n)
		var assume []int
		for v := 1; v <= n; v++ {
			if k := r.Below(12); k < 2 {
				assume = append(assume, v*(2*k-1))
			}
		}
		weights := []int{1, 2, 10, 1000, most}[r.Below(5)]
		var s []api.Soft
		for range r.Below(3 * n) {
			s = append(s, api.Soft{Lit: (1 + r.Below(n)) * (1 - 2*r.Below(2)), Weight: r.Below(weights + 1)})
		}
		budget := []int{0, 1, 2, 5, 1 << 30, 1 << 30, 1 << 30}[r.Below(7)]
		old := fmt.Sprint(c, assume, s)
		got, e := best.Best(c, assume, s, budget)
		kinds[got.Kind]++
		if w := wrong(c, models(c, assume), s, budget, got); w != "" || e != api.OK || fmt.Sprint(c, assume, s) != old {
			t.Fatalf("%v, assuming %v, %v with %d: %+v, %d: %s", c, assume, s, budget, got, e, w)
		}
		if n <= 10 && budget == 1<<30 && got.Kind == api.OutA {
			t.Fatal("out of a budget that is large enough", c, assume, s)
		}
		if again, _ := best.Best(c, assume, s, budget); !reflect.DeepEqual(again, got) {
			t.Fatal("equal calls differ", c, assume, s)
		}
		// One more soft literal never makes it cheaper.
		if got.Kind == api.YesA && budget == 1<<30 && round%5 == 0 {
			more, e := best.Best(c, assume, append(slices.Clone(s), soft(1+r.Below(n), 1)...), budget)
			if e != api.OK || more.Kind != api.YesA || more.Cost < got.Cost {
				t.Fatal(c, assume, s, got, more, e)
			}
		}
	}
	if kinds[api.YesA] < 300 || kinds[api.NoA] < 100 || kinds[api.OutA] < 30 {
		t.Error(kinds)
	}
}

// Ten variables, 64 soft literals and 1000 clauses are never too much.
func TestTheLargestSmallProblems(t *testing.T) {
	r := sample.New(2)
	for range 20 {
		c := api.Cnf{N: 10}
		for range 1000 {
			var l []int
			for range 6 + r.Below(5) {
				l = append(l, (1+r.Below(10))*(1-2*r.Below(2)))
			}
			c.L = append(c.L, l)
		}
		var s []api.Soft
		for range 64 {
			s = append(s, api.Soft{Lit: (1 + r.Below(10)) * (1 - 2*r.Below(2)), Weight: r.Below(most)})
		}
		got, e := best.Best(c, nil, s, 1<<30)
		if w := wrong(c, models(c, nil), s, 1<<30, got); w != "" || e != api.OK || got.Kind == api.OutA {
			t.Fatal(got, e, w)
		}
	}
}

// So many clauses that there is hardly room for others: an optimum or no answer, but no wrong one.
func TestNoRoom(t *testing.T) {
	for _, n := range []int{10, 11} {
		// Exactly one of n variables is true.
		c := formula(n, nil)
		var s []api.Soft
		for v := 1; v <= n; v++ {
			c.L[0] = append(c.L[0], v)
			s = append(s, api.Soft{Lit: v, Weight: 10 + v%3})
			for u := 1; u < v; u++ {
				c.L = append(c.L, []int{-u, -v})
			}
		}
		all := models(c, nil)
		for _, room := range []int{0, 10, 15, 60} {
			for _, s := range [][]api.Soft{s, append(s[:n:n], soft(-1, 90)...)} {
				d := formula(n, append(slices.Repeat([][]int{{1, -1}}, 65536-len(c.L)-room), c.L...)...)
				got, e := best.Best(d, nil, s, 1<<30)
				w := wrong(c, all, s, 1<<30, got)
				if e == api.OK && (w != "" || got.Kind != api.YesA) || e != api.OK && (e != api.ErrBound || !reflect.DeepEqual(got, api.Result{})) {
					t.Error(n, room, got, e, w)
				}
				if got, e := best.Best(d, []int{1, 2}, s, 1<<30); e != api.OK || got.Kind != api.NoA {
					t.Error(n, room, got, e)
				}
			}
		}
	}
}

// Weights of many sizes, and cores of many literals.
func TestLargerProblems(t *testing.T) {
	// Of each ten variables at most three are true.
	c, s := api.Cnf{N: 60}, []api.Soft{}
	want := 0
	for g := range 6 {
		for bits := range 1 << 10 {
			var l []int
			for k := range 10 {
				if bits>>k&1 == 1 {
					l = append(l, -1-10*g-k)
				}
			}
			if len(l) == 4 {
				c.L = append(c.L, l)
			}
		}
		for k := range 10 {
			w := 1 + (7*k+g)%10
			s = append(s, api.Soft{Lit: 1 + 10*g + k, Weight: w * (1 + g)})
			if w <= 7 {
				want += w * (1 + g)
			}
		}
	}
	got, e := best.Best(c, nil, s, 1<<40)
	if e != api.OK || got.Kind != api.YesA || got.Cost != want || got.Lower != want || cost(s, got.Model) != want || !cnf.Value(c, got.Model) {
		t.Error(got, want, e)
	}
	if got, e := best.Best(c, nil, s, 3); e != api.OK || got.Kind != api.OutA || got.Lower > want || got.Spent != 3 || len(got.Model) > 0 && got.Cost < want {
		t.Error(got, e)
	}
}
