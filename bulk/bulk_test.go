package bulk_test

import (
	"fmt"
	"slices"
	"testing"

	"chalkline/api"
	"chalkline/bulk"
	"chalkline/solver"
)

func TestSameAsOneByOne(t *testing.T) {
	c := api.Cnf{N: 4, L: [][]int{{1, -2}, {}, {3, 3, -1}}}
	d := api.Cnf{N: 6, L: [][]int{{6}, {-1}}}
	want, _ := solver.New(4)
	for _, l := range c.L {
		want, _ = solver.Add(want, l)
	}
	got, e := bulk.New(c)
	if e != api.OK || fmt.Sprint(got) != fmt.Sprint(want) {
		t.Error(got, want, e)
	}
	old := fmt.Sprint(got)
	want, _ = solver.Grow(want, 6)
	for _, l := range d.L {
		want, _ = solver.Add(want, l)
	}
	more, e := bulk.Add(got, d)
	if e != api.OK || fmt.Sprint(more) != fmt.Sprint(want) || fmt.Sprint(got) != old {
		t.Error(more, want, e)
	}
	if x, e := bulk.Add(more, api.Cnf{N: 1, L: [][]int{{1}}}); e != api.OK || x.N != 6 || len(x.Given) != 6 {
		t.Error(x, e)
	}
	c.L[0][0], d.L[0][0] = 9, 9
	if fmt.Sprint(more) != fmt.Sprint(want) {
		t.Error("a solver shares memory with an argument")
	}
}

func TestTwoFromOne(t *testing.T) {
	s, _ := bulk.New(api.Cnf{N: 2, L: [][]int{{1}}})
	s.Given, s.Proof = append(make([][]int, 0, 9), s.Given...), append(make([]api.Line, 0, 9), s.Proof...)
	a, _ := bulk.Add(s, api.Cnf{N: 2, L: [][]int{{2}}})
	b, _ := bulk.Add(s, api.Cnf{N: 2, L: [][]int{{-2}}})
	if a.Given[1][0] != 2 || a.Proof[1].L[0] != 2 || b.Given[1][0] != -2 {
		t.Error("solvers share memory that changes")
	}
}

func TestErrors(t *testing.T) {
	for i, x := range []struct {
		c api.Cnf
		e api.Errno
	}{
		{api.Cnf{N: -1}, api.ErrArg}, {api.Cnf{N: 65537}, api.ErrArg}, {api.Cnf{N: 1, L: [][]int{{2}}}, api.ErrArg}, {api.Cnf{N: 1, L: make([][]int, 65537)}, api.ErrBound}, {api.Cnf{N: 1, L: make([][]int, 65536)}, api.OK}, {api.Cnf{N: 65536}, api.OK},
	} {
		if s, e := bulk.New(x.c); e != x.e || e != api.OK && (s.N != 0 || len(s.Given) > 0) {
			t.Errorf("%d: %d", i, e)
		}
	}
	s, _ := bulk.New(api.Cnf{N: 2, L: slices.Repeat([][]int{{1}}, 65535)})
	for n, want := range map[int]api.Errno{0: api.OK, 1: api.OK, 2: api.ErrBound} {
		if _, e := bulk.Add(s, api.Cnf{N: 2, L: make([][]int, n)}); e != want {
			t.Error(n, e)
		}
	}
	if _, e := bulk.Add(api.Solver{}, api.Cnf{}); e != api.ErrArg {
		t.Error(e)
	}
}
