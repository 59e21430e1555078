package cnf_test

import (
	"fmt"
	"slices"
	"testing"

	"chalkline/api"
	"chalkline/cnf"
	"chalkline/sample"
)

const far = 1<<63 - 1

// odd are integers that are no literals.
var odd = []int{0, 65537, -65537, far, -far, -far - 1}

func TestCheck(t *testing.T) {
	many := make([][]int, 65536)
	for i, x := range []struct {
		c api.Cnf
		e api.Errno
	}{
		{api.Cnf{}, api.OK}, {api.Cnf{N: 65536}, api.OK}, {api.Cnf{N: 65537}, api.ErrArg}, {api.Cnf{N: -1}, api.ErrArg}, {api.Cnf{N: far}, api.ErrArg}, {api.Cnf{N: -far - 1}, api.ErrArg},
		{api.Cnf{N: 2, L: [][]int{{1, -2, 1}, {}, {2, -2}}}, api.OK}, {api.Cnf{N: 2, L: [][]int{{1}, {3}}}, api.ErrArg}, {api.Cnf{N: 2, L: [][]int{{1}, {-3}}}, api.ErrArg}, {api.Cnf{N: 65536, L: [][]int{{65536, -65536}}}, api.OK},
		{api.Cnf{L: many}, api.OK}, {api.Cnf{L: append(many, nil)}, api.ErrBound}, {api.Cnf{L: append(many, []int{1})}, api.ErrArg}, {api.Cnf{N: -1, L: append(many, nil)}, api.ErrArg},
	} {
		if e := cnf.Check(x.c); e != x.e {
			t.Errorf("%d: %d, want %d", i, e, x.e)
		}
		if b, e := cnf.Put(x.c); e != x.e || e != api.OK && len(b) > 0 {
			t.Errorf("%d: Put reports %d, want %d", i, e, x.e)
		}
	}
	for _, lit := range odd {
		if e := cnf.Check(api.Cnf{N: 65536, L: [][]int{{1, lit}}}); e != api.ErrArg {
			t.Error(lit, e)
		}
	}
}

func TestNorm(t *testing.T) {
	for i, x := range []struct {
		l, want []int
		both    bool
	}{
		{nil, nil, false}, {[]int{2, -1, 2}, []int{-1, 2}, false}, {[]int{-2, 2}, []int{2, -2}, true}, {[]int{2, -2, 1, 2}, []int{1, 2, -2}, true}, {[]int{3, 1, 2}, []int{1, 2, 3}, false}, {[]int{-3, -1, -2, -1}, []int{-1, -2, -3}, false},
		{[]int{65536, -65536, 1}, []int{1, 65536, -65536}, true}, {odd, nil, false}, {append([]int{5, -4}, odd...), []int{-4, 5}, false}, {[]int{65537, -65537, 1}, []int{1}, false}, {[]int{1, 2, -3, -1}, []int{1, -1, 2, -3}, true}, {[]int{1, -2, 2, 3}, []int{1, 2, -2, 3}, true}, {[]int{1, 2, 3, -3}, []int{1, 2, 3, -3}, true},
	} {
		old := slices.Clone(x.l)
		if l, both := cnf.Norm(x.l); !slices.Equal(l, x.want) || both != x.both {
			t.Errorf("%d: %v, %v", i, l, both)
		}
		if !slices.Equal(x.l, old) {
			t.Error("an argument was changed")
		}
	}
}

func TestHoldsAndValue(t *testing.T) {
	a := []bool{true, true, false}
	for i, x := range []struct {
		l    []int
		want bool
	}{
		{nil, false}, {[]int{1}, true}, {[]int{-1}, false}, {[]int{2}, false}, {[]int{-2}, true}, {[]int{3}, false}, {[]int{-3}, true}, {[]int{-65536}, true}, {[]int{65536}, false}, {[]int{-1, 2, -2}, true}, {[]int{-1, 2, 3}, false}, {[]int{1, -1}, true},
		{odd, false}, {append([]int{-1}, odd...), false}, {append(slices.Clone(odd), 1), true},
	} {
		if cnf.Holds(x.l, a) != x.want {
			t.Errorf("%d: not %v", i, x.want)
		}
		if !slices.ContainsFunc(x.l, func(lit int) bool { return slices.Contains(odd, lit) }) {
			if cnf.Value(api.Cnf{N: 65536, L: [][]int{{1}, x.l}}, a) != x.want || cnf.Value(api.Cnf{N: 65536, L: [][]int{x.l, {1}}}, a) != x.want {
				t.Errorf("%d: Value is not %v", i, x.want)
			}
		}
	}
	for _, lit := range odd {
		if cnf.Holds([]int{lit}, nil) || cnf.Holds([]int{lit}, []bool{true}) {
			t.Error(lit, "is true")
		}
	}
	if !cnf.Value(api.Cnf{}, nil) || cnf.Value(api.Cnf{N: 1, L: [][]int{{1}, {1, 2}}}, a) || cnf.Value(api.Cnf{N: -1}, nil) || cnf.Value(api.Cnf{L: make([][]int, 65537)}, nil) || cnf.Value(api.Cnf{L: [][]int{{}}}, nil) {
		t.Error("Value of invalid formulas")
	}
}

func TestResolve(t *testing.T) {
	for i, x := range []struct {
		a, b []int
		v    int
		want []int
		e    api.Errno
	}{
		{[]int{1, 2}, []int{-1, 3}, 1, []int{2, 3}, api.OK}, {[]int{-1, 3}, []int{1, 2}, 1, []int{2, 3}, api.OK}, {[]int{1}, []int{-1}, 1, nil, api.OK}, {[]int{1, 1, 2}, []int{-1, 2, -1}, 1, []int{2}, api.OK}, {[]int{1, 2}, []int{-1, -2}, 1, []int{2, -2}, api.OK},
		{[]int{1, -1, 2}, []int{-1, 3}, 1, []int{-1, 2, 3}, api.OK}, {[]int{1, 2}, []int{-1, 1, 3}, 1, []int{1, 2, 3}, api.OK}, {[]int{1, -1}, []int{1, -1}, 1, []int{1, -1}, api.OK}, {[]int{-1, 1}, []int{1}, 1, []int{1}, api.OK}, {[]int{-1}, []int{1, -1}, 1, []int{-1}, api.OK},
		{[]int{1, 2}, []int{1, 3}, 1, nil, api.ErrLit}, {[]int{2}, []int{-1}, 1, nil, api.ErrLit}, {[]int{1}, []int{2}, 1, nil, api.ErrLit}, {[]int{-1}, []int{-1}, 1, nil, api.ErrLit}, {nil, nil, 1, nil, api.ErrLit}, {[]int{1, 2}, []int{-1, 3}, 2, nil, api.ErrLit}, {[]int{-1}, []int{2}, 1, nil, api.ErrLit},
		{[]int{1, 2}, []int{-1, 3}, -1, nil, api.ErrLit}, {[]int{0}, []int{0}, 0, nil, api.ErrLit}, {[]int{65537}, []int{-65537}, 65537, nil, api.ErrLit}, {[]int{65536}, []int{-65536}, 65536, nil, api.OK}, {[]int{far}, []int{-far}, far, nil, api.ErrLit}, {[]int{-far - 1}, []int{-far - 1}, -far - 1, nil, api.ErrLit},
		{[]int{9, 1, 70000}, []int{-1, 0, 8}, 1, []int{8, 9}, api.OK},
	} {
		a, b := slices.Clone(x.a), slices.Clone(x.b)
		if l, e := cnf.Resolve(x.a, x.b, x.v); !slices.Equal(l, x.want) || e != x.e {
			t.Errorf("%d: %v, %d", i, l, e)
		}
		if !slices.Equal(a, x.a) || !slices.Equal(b, x.b) {
			t.Error("an argument was changed")
		}
	}
	l, _ := cnf.Resolve([]int{1, 2}, []int{-1}, 1)
	a := []int{1, 2}
	m, _ := cnf.Resolve(a, []int{-1}, 1)
	if a[1] = 7; l[0] != 2 || m[0] != 2 {
		t.Error("a result shares memory")
	}
}

func TestSubsumes(t *testing.T) {
	var long []int
	for i := range 300 {
		long = append(long, 300-i)
	}
	for i, x := range []struct {
		a, b []int
		want bool
	}{
		{nil, nil, true}, {nil, []int{1}, true}, {[]int{1}, nil, false}, {[]int{1}, []int{1, 2}, true}, {[]int{2, 1}, []int{1, 2}, true}, {[]int{1, 1, 1}, []int{1}, true}, {[]int{-1}, []int{1}, false}, {[]int{1, 3}, []int{1, 2}, false}, {[]int{0, 70000}, []int{70000, 5, 0}, true}, {[]int{0}, []int{1}, false},
		{long, long, true}, {[]int{5, 299, 300, 1}, long, true}, {[]int{5, 301}, long, false}, {append(long, 0), long, false}, {long, long[1:], false}, {long[1:], long, true},
		{[]int{1, 2, 3, 4, 5, 6, 7, 8}, []int{8, 7, 6, 5, 4, 3, 2, 1}, true}, {[]int{1, 2, 3, 4, 5, 6, 7, 8, 9}, []int{8, 7, 6, 5, 4, 3, 2, 1}, false}, {[]int{9}, []int{9, 8, 7, 6, 5, 4, 3, 2, 1}, true}, {[]int{10}, []int{9, 8, 7, 6, 5, 4, 3, 2, 1}, false},
	} {
		if cnf.Subsumes(x.a, x.b) != x.want {
			t.Errorf("%d: not %v", i, x.want)
		}
	}
}

func TestSame(t *testing.T) {
	l := []api.Cnf{{}, {N: 1}, {L: [][]int{{}}}, {L: [][]int{{1}}}, {L: [][]int{{1, 2}}}, {L: [][]int{{2, 1}}}, {L: [][]int{{1}, {2}}}, {L: [][]int{{2}, {1}}}, {L: [][]int{{}, {}}}, {L: [][]int{{1, 1}}}}
	for i, a := range l {
		for k, b := range l {
			if cnf.Same(a, b) != (i == k) {
				t.Error(i, k)
			}
		}
	}
	if !cnf.Same(api.Cnf{L: [][]int{nil}}, api.Cnf{L: [][]int{{}}}) || !cnf.Same(api.Cnf{}, api.Cnf{L: [][]int{}}) {
		t.Error("empty lists")
	}
}

func clause(r *sample.Source, n int) (l []int) {
	for range r.Below(5) {
		lit := 1 + r.Below(n)
		if r.Chance(2) {
			lit = -lit
		}
		l = append(l, lit)
	}
	return l
}

func TestResolventsAndSubsumptionOfRandomClauses(t *testing.T) {
	r := sample.New(1)
	resolved, subsumed := 0, 0
	for range 5000 {
		a, b, v := clause(r, 4), clause(r, 4), 1+r.Below(4)
		x, e := cnf.Resolve(a, b, v)
		for bits := range 32 {
			as := make([]bool, 5)
			for k := range 5 {
				as[k] = bits>>k&1 == 1
			}
			want := slices.ContainsFunc(a, func(lit int) bool { return as[max(lit, -lit)] == (lit > 0) })
			if cnf.Holds(a, as) != want {
				t.Fatal(a, as)
			}
			if n, both := cnf.Norm(a); cnf.Holds(n, as) != want || both && !want {
				t.Fatal(a, n, both)
			}
			if e == api.OK && cnf.Holds(a, as) && cnf.Holds(b, as) && !cnf.Holds(x, as) {
				t.Fatal(a, b, v, x, as)
			}
			if cnf.Subsumes(a, b) && cnf.Holds(a, as) && !cnf.Holds(b, as) {
				t.Fatal(a, b, as)
			}
		}
		if e == api.OK {
			resolved++
		}
		if cnf.Subsumes(a, b) {
			subsumed++
		}
	}
	if resolved < 300 || subsumed < 500 {
		t.Error(resolved, subsumed)
	}
}

func show(c api.Cnf) string { return fmt.Sprint(c.N, len(c.L), c.L) }
