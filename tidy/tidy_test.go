package tidy_test

import (
	"fmt"
	"slices"
	"testing"

	"chalkline/api"
	"chalkline/cnf"
	"chalkline/sample"
	"chalkline/tidy"
)

const far = 1<<63 - 1

func formula(n int, l ...[]int) api.Cnf { return api.Cnf{N: n, L: l} }

// learnt returns clauses [1], [2] and so on with the given levels and activities, in turn.
func learnt(l ...int) (out []api.Learnt) {
	for i := 0; i < len(l); i += 2 {
		out = append(out, api.Learnt{L: []int{i/2 + 1}, Levels: l[i], Act: l[i+1]})
	}
	return out
}

func names(l []api.Learnt) (out []int) {
	for _, x := range l {
		out = append(out, x.L...)
	}
	return out
}

func TestReduce(t *testing.T) {
	mixed := learnt(3, 5, 2, 0, 9, 7, 3, 7, 0, 1, 3, 7, 4, 5, -3, 0, 3, 5)
	for i, x := range []struct {
		l    []api.Learnt
		keep int
		want []int
	}{
		{nil, 5, nil}, {nil, -1, nil}, {mixed, 0, []int{2, 5, 8}}, {mixed, -1, []int{2, 5, 8}}, {mixed, -far - 1, []int{2, 5, 8}}, {mixed, 1, []int{2, 5, 6, 8}}, {mixed, 2, []int{2, 4, 5, 6, 8}}, {mixed, 3, []int{2, 3, 4, 5, 6, 8}}, {mixed, 4, []int{2, 3, 4, 5, 6, 8, 9}}, {mixed, 5, []int{1, 2, 3, 4, 5, 6, 8, 9}}, {mixed, 6, []int{1, 2, 3, 4, 5, 6, 7, 8, 9}}, {mixed, far, []int{1, 2, 3, 4, 5, 6, 7, 8, 9}},
		{learnt(3, -far-1, 3, far, 3, 0), 1, []int{2}}, {learnt(3, -far-1, 3, far, 3, 0), 2, []int{2, 3}}, {learnt(far, 1, 3, 1), 1, []int{2}},
	} {
		old := fmt.Sprint(x.l)
		got := tidy.Reduce(x.l, x.keep)
		if !slices.Equal(names(got), x.want) || fmt.Sprint(x.l) != old {
			t.Errorf("%d: %v", i, names(got))
		}
		for _, y := range got {
			if z := x.l[y.L[0]-1]; z.Levels != y.Levels || z.Act != y.Act {
				t.Errorf("%d: another clause", i)
			}
		}
	}
}

func TestVivify(t *testing.T) {
	for i, x := range []struct {
		c    api.Cnf
		k    int
		want []int
	}{
		{formula(3, []int{1, 2, 3}, []int{-1, 2}), 0, []int{1, 2, 3}}, {formula(3, []int{1, 2, 3}, []int{1, 2}), 0, []int{1, 2}}, {formula(3, []int{3, 1, 2}, []int{1, 2}), 0, []int{1, 2}}, {formula(3, []int{1, 2, 3}, []int{1, -2}), 0, []int{1, 3}}, {formula(3, []int{1, 2, 3}, []int{1, 3}), 0, []int{1, 2, 3}}, {formula(3, []int{1, 2, 3}, []int{-1}), 0, []int{2, 3}}, {formula(3, []int{1, 2, 3}, []int{1}), 0, []int{1}}, {formula(3, []int{1, 2, 3}, []int{2}), 0, []int{1, 2}},
		{formula(3, []int{1, 2, 3}, []int{}), 0, nil}, {formula(3, []int{1, 2, 3}, []int{3}, []int{-3, -3}), 0, nil}, {formula(3, []int{1, 2, 3}, []int{1, 2}, []int{1, -2}), 0, []int{1}}, {formula(3, []int{1, 2, 3}), 0, []int{1, 2, 3}}, {formula(3, []int{-3, 2, -1, 2}), 0, []int{-1, 2, -3}}, {formula(3, []int{}, []int{1}), 0, nil},
		{formula(3, []int{1, -1, 2}), 0, []int{1, -1}}, {formula(3, []int{1, 2}, []int{1, 2}), 1, []int{1, 2}}, {formula(4, []int{1, 2, 3}, []int{1, 4, 4}, []int{-4, 2, 2}), 0, []int{1, 2}}, {formula(4, []int{1, 2}, []int{1, 2, 3}), 1, []int{1, 2}}, {formula(5, []int{4, 5}, []int{4, -5}, []int{1, 2}), 2, []int{1, 2}},
	} {
		if l, e := tidy.Vivify(x.c, x.k); !slices.Equal(l, x.want) || e != api.OK {
			t.Errorf("%d: %v, %d", i, l, e)
		}
	}
	for i, x := range []struct {
		c api.Cnf
		k int
		e api.Errno
	}{
		{formula(1), 0, api.ErrArg}, {formula(1, []int{1}), 1, api.ErrArg}, {formula(1, []int{1}), -1, api.ErrArg}, {formula(1, []int{1}), far, api.ErrArg}, {formula(1, []int{1}), -far - 1, api.ErrArg}, {formula(1, []int{2}), 0, api.ErrArg}, {formula(-1, []int{}), 0, api.ErrArg}, {formula(1, make([][]int, 65537)...), 0, api.ErrBound}, {formula(1, make([][]int, 65537)...), -1, api.ErrBound},
	} {
		if l, e := tidy.Vivify(x.c, x.k); e != x.e || len(l) > 0 {
			t.Errorf("%d: %v, %d", i, l, e)
		}
	}
}

func TestSubsume(t *testing.T) {
	for i, x := range []struct{ c, want api.Cnf }{
		{formula(2, []int{1, 2}, []int{1}, []int{2, 1}), formula(2, []int{1})}, {formula(2), formula(2)}, {formula(2, []int{2, 1}, []int{1, 2}), formula(2, []int{2, 1})}, {formula(2, []int{1, 1}, []int{1}, []int{1, 1, 1}), formula(2, []int{1, 1})}, {formula(2, []int{1}, []int{}, []int{2}), formula(2, []int{})}, {formula(2, []int{}, []int{}), formula(2, []int{})},
		{formula(3, []int{1, 2}, []int{-1, 2}, []int{2, 3, 1}, []int{3}), formula(3, []int{1, 2}, []int{-1, 2}, []int{3})}, {formula(3, []int{1, -1}, []int{1, -1, 2}), formula(3, []int{1, -1})}, {formula(3, []int{3, 2, 1}, []int{1, 3}, []int{2, 1}), formula(3, []int{1, 3}, []int{2, 1})}, {formula(3, []int{2, 2, 1}, []int{1, 2, 1}, []int{3, 1, 2}, []int{3, 1}), formula(3, []int{2, 2, 1}, []int{3, 1})},
	} {
		old := fmt.Sprint(x.c)
		if c, e := tidy.Subsume(x.c); !cnf.Same(c, x.want) || e != api.OK || fmt.Sprint(x.c) != old {
			t.Errorf("%d: %v, %d", i, c, e)
		}
	}
	for _, x := range []struct {
		c api.Cnf
		e api.Errno
	}{{formula(1, []int{2}), api.ErrArg}, {formula(-1), api.ErrArg}, {formula(1, make([][]int, 65537)...), api.ErrBound}} {
		if c, e := tidy.Subsume(x.c); e != x.e || !cnf.Same(c, api.Cnf{}) {
			t.Error(c, e)
		}
	}
}

// closure propagates by going over all clauses again and again. It reports whether there is a conflict.
func closure(c api.Cnf, k int, lits []int) (map[int]bool, bool) {
	truth := map[int]bool{}
	for _, lit := range lits {
		truth[lit] = true
	}
	conflict := false
	for again := true; again; {
		again = false
		for i, l := range c.L {
			if i == k || slices.ContainsFunc(l, func(lit int) bool { return truth[lit] }) {
				continue
			}
			var open []int
			for _, lit := range l {
				if !truth[-lit] && !slices.Contains(open, lit) {
					open = append(open, lit)
				}
			}
			conflict = conflict || len(open) == 0
			if len(open) == 1 {
				truth[open[0]], again = true, true
			}
		}
	}
	return truth, conflict
}

func vivifyByWords(c api.Cnf, k int) (retained []int) {
	l, _ := cnf.Norm(c.L[k])
	for _, x := range l {
		var not []int
		for _, y := range retained {
			not = append(not, -y)
		}
		truth, conflict := closure(c, k, not)
		switch {
		case conflict:
			return retained
		case truth[x]:
			return append(retained, x)
		case !truth[-x]:
			retained = append(retained, x)
		}
	}
	return retained
}

func subsumeByWords(c api.Cnf) api.Cnf {
	out := api.Cnf{N: c.N}
	for k, l := range c.L {
		drop := false
		for i, m := range c.L {
			drop = drop || i != k && cnf.Subsumes(m, l) && (!cnf.Subsumes(l, m) || i < k)
		}
		if !drop {
			out.L = append(out.L, l)
		}
	}
	return out
}

func random(r *sample.Source) api.Cnf {
	c := api.Cnf{N: 1 + r.Below(7)}
	for range 1 + r.Below(3*c.N) {
		var l []int
		for range r.Below(5) {
			l = append(l, (1+r.Below(c.N))*(1-2*r.Below(2)))
		}
		if len(l) > 0 || r.Chance(30) {
			c.L = append(c.L, l)
		}
	}
	return c
}

func TestRandomFormulas(t *testing.T) {
	r := sample.New(1)
	shorter, fewer := 0, 0
	for range 3000 {
		c := random(r)
		old := fmt.Sprint(c)
		s, e := tidy.Subsume(c)
		if e != api.OK || !cnf.Same(s, subsumeByWords(c)) {
			t.Fatal(c, s, e)
		}
		if len(s.L) < len(c.L) {
			fewer++
		}
		for i, a := range s.L {
			for k, b := range s.L {
				if i != k && cnf.Subsumes(a, b) {
					t.Fatal("subsumed", c, s)
				}
			}
		}
		k := r.Below(len(c.L) + 1)
		if k == len(c.L) {
			continue
		}
		v, e := tidy.Vivify(c, k)
		if e != api.OK || !slices.Equal(v, vivifyByWords(c, k)) || !cnf.Subsumes(v, c.L[k]) || fmt.Sprint(c) != old {
			t.Fatal(c, k, v, e)
		}
		norm, _ := cnf.Norm(c.L[k])
		if len(v) < len(norm) {
			shorter++
		}
		var not []int
		for _, y := range v {
			not = append(not, -y)
		}
		if _, conflict := closure(c, -1, not); !conflict && !slices.ContainsFunc(v, func(x int) bool { return slices.Contains(v, -x) }) {
			t.Fatal("not implied by unit propagation", c, k, v)
		}
		d := api.Cnf{N: c.N, L: slices.Clone(c.L)}
		d.L[k] = v
		sameModels(t, c, d)
		sameModels(t, c, s)
	}
	if shorter < 300 || fewer < 1000 {
		t.Error(shorter, fewer)
	}
}

func sameModels(t *testing.T, c, d api.Cnf) {
	for bits := range 1 << c.N {
		a := make([]bool, c.N+1)
		for v := range c.N {
			a[v+1] = bits>>v&1 == 1
		}
		if cnf.Value(c, a) != cnf.Value(d, a) {
			t.Fatal(c, d, a)
		}
	}
}

func TestSubsumeOfFarVariables(t *testing.T) {
	r := sample.New(3)
	for range 500 {
		c := api.Cnf{N: 700}
		for range r.Below(9) {
			var l []int
			for range 1 + r.Below(3) {
				l = append(l, (1+64*r.Below(10)+r.Below(2))*(1-2*r.Below(2)))
			}
			c.L = append(c.L, l)
		}
		if s, e := tidy.Subsume(c); e != api.OK || !cnf.Same(s, subsumeByWords(c)) {
			t.Fatal(c, s, e)
		}
	}
	c := formula(129, []int{1}, []int{65, 2}, []int{-63, 4}, []int{129, 1, 3})
	if s, e := tidy.Subsume(c); e != api.OK || !cnf.Same(s, formula(129, c.L[:3]...)) {
		t.Error(s, e)
	}
}

func TestReduceOfRandomClauses(t *testing.T) {
	r := sample.New(2)
	for range 500 {
		var l []api.Learnt
		for i := range r.Below(12) {
			l = append(l, api.Learnt{L: []int{i + 1}, Levels: r.Below(6), Act: r.Below(4)})
		}
		keep := r.Below(10)
		var want []int
		for i, x := range l {
			better := 0
			for k, y := range l {
				if y.Levels > 2 && (y.Act > x.Act || y.Act == x.Act && (y.Levels < x.Levels || y.Levels == x.Levels && k > i)) {
					better++
				}
			}
			if x.Levels <= 2 || better < keep {
				want = append(want, i+1)
			}
		}
		if got := names(tidy.Reduce(l, keep)); !slices.Equal(got, want) {
			t.Fatal(l, keep, got, want)
		}
	}
}

func TestLargeFormulas(t *testing.T) {
	// A chain of implications in the worst order, and a clause for each pair of neighbours.
	n := 30000
	c := api.Cnf{N: n, L: [][]int{{1, -n}}}
	for i := n; i > 1; i-- {
		c.L = append(c.L, []int{-i, i - 1})
	}
	if l, e := tidy.Vivify(c, 0); e != api.OK || !slices.Equal(l, []int{1, -n}) {
		t.Error(l, e)
	}
	c.L = append(c.L, []int{n, 1, 2})
	if l, e := tidy.Vivify(c, 0); e != api.OK || !slices.Equal(l, []int{1}) {
		t.Error(l, e)
	}
	for i := 1; i+1 < n; i++ {
		c.L = append(c.L, []int{-i - 2, -i - 1, i})
	}
	s, e := tidy.Subsume(c)
	if e != api.OK || len(s.L) != n+1 {
		t.Error(len(s.L), e)
	}
}

func TestMemoryIsNotShared(t *testing.T) {
	l := learnt(1, 1, 5, 5)
	a := tidy.Reduce(l, 1)
	c := formula(3, []int{1, 2}, []int{3})
	b, _ := tidy.Subsume(c)
	v, _ := tidy.Vivify(c, 0)
	l[0].L[0], c.L[0][0], c.L[1][0] = 9, 9, 9
	if a[0].L[0] != 1 || b.L[0][0] != 1 || v[0] != 1 {
		t.Error("a result shares memory with an argument")
	}
}
