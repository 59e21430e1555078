package elim_test

import (
	"fmt"
	"slices"
	"testing"

	"chalkline/api"
	"chalkline/cnf"
	"chalkline/elim"
	"chalkline/sample"
)

const far = 1<<63 - 1

func formula(n int, l ...[]int) api.Cnf { return api.Cnf{N: n, L: l} }

func TestOut(t *testing.T) {
	for i, x := range []struct {
		c       api.Cnf
		v       int
		l, undo string
	}{
		{formula(3, []int{1, 2}, []int{-1, 3}, []int{2, 3}), 1, "[[2 3] [2 3]]", "[[1 2] [-1 3]]"}, {formula(3, []int{1, 2}, []int{-1, -2}), 1, "[]", "[[1 2] [-1 -2]]"}, {formula(3, []int{1, 2}, []int{1, 3}), 1, "[]", "[[1 2] [1 3]]"}, {formula(3, []int{-1}, []int{2}, []int{-1, 3}), 1, "[[2]]", "[[-1] [-1 3]]"}, {formula(3, []int{2, 3}), 1, "[[2 3]]", "[]"}, {formula(3), 3, "[]", "[]"},
		{formula(2, []int{1}, []int{-1}), 1, "[[]]", "[[1] [-1]]"}, {formula(3, []int{1, -1, 2}, []int{1, 3}), 1, "[]", "[[1 -1 2] [1 3]]"}, {formula(3, []int{1, -1, 2}, []int{1, 3}, []int{-1, 2}), 1, "[[2 3]]", "[[1 -1 2] [1 3] [-1 2]]"},
		{formula(5, []int{-1, 4}, []int{1, 2}, []int{5}, []int{1, 3, 1}, []int{-1, 5, -1}, []int{}), 1, "[[5] [] [2 4] [2 5] [3 4] [3 5]]", "[[-1 4] [1 2] [1 3 1] [-1 5 -1]]"}, {formula(3, []int{3, 3, 2}, []int{1, 2, -1}), 3, "[[1 2 -1]]", "[[3 3 2]]"}, {formula(3, []int{3, 1}, []int{2, -3, 2, 1}), 3, "[[1 2]]", "[[3 1] [2 -3 2 1]]"},
		{formula(65536, []int{65536}, []int{-65536, 1}), 65536, "[[1]]", "[[65536] [-65536 1]]"},
	} {
		old := fmt.Sprint(x.c)
		c, u, e := elim.Out(x.c, x.v)
		if c.N != x.c.N || fmt.Sprint(c.L) != x.l || u.V != x.v || fmt.Sprint(u.L) != x.undo || e != api.OK || fmt.Sprint(x.c) != old {
			t.Errorf("%d: %v, %v, %d", i, c, u, e)
		}
	}
}

// grid has a clauses with 1 and b clauses with -1 that yield a * b resolvents, and more clauses besides.
func grid(a, b, more int) api.Cnf {
	c := api.Cnf{N: 1 + a + b}
	for i := range a {
		c.L = append(c.L, []int{1, 2 + i})
	}
	for i := range b {
		c.L = append(c.L, []int{-1, 2 + a + i})
	}
	for range more {
		c.L = append(c.L, []int{2})
	}
	return c
}

func TestOutErrors(t *testing.T) {
	for i, x := range []struct {
		c api.Cnf
		v int
		e api.Errno
	}{
		{formula(3), 0, api.ErrLit}, {formula(3), 4, api.ErrLit}, {formula(3), -1, api.ErrLit}, {formula(3), far, api.ErrLit}, {formula(3), -far - 1, api.ErrLit}, {formula(3, []int{4}), 0, api.ErrArg}, {formula(-1), 0, api.ErrArg}, {formula(3, make([][]int, 65537)...), 0, api.ErrBound}, {formula(0), 1, api.ErrLit},
		{grid(256, 256, 0), 1, api.OK}, {grid(256, 256, 1), 1, api.ErrBound}, {grid(257, 256, 0), 1, api.ErrBound}, {grid(256, 255, 256), 1, api.OK}, {grid(256, 255, 257), 1, api.ErrBound}, {grid(10000, 10000, 0), 1, api.ErrBound}, {grid(1, 1, 65534), 1, api.OK}, {grid(1, 0, 65535), 1, api.OK}, {grid(2, 2, 65532), 1, api.OK}, {grid(2, 3, 65530), 1, api.OK}, {grid(2, 3, 65531), 1, api.ErrBound},
	} {
		c, u, e := elim.Out(x.c, x.v)
		if e != x.e || e != api.OK && (!cnf.Same(c, api.Cnf{}) || u.V != 0 || len(u.L) > 0) {
			t.Errorf("%d: %d, want %d", i, e, x.e)
		}
	}
}

func TestElim(t *testing.T) {
	square := formula(5, []int{1, 2}, []int{1, 3}, []int{-1, 4}, []int{-1, 5})
	cube := formula(7, []int{1, 2}, []int{1, 3}, []int{1, 4}, []int{-1, 5}, []int{-1, 6}, []int{-1, 7})
	rest := []int{2, 3, 4, 5, 6, 7}
	for i, x := range []struct {
		c      api.Cnf
		frozen []int
		grow   int
		l      string
		vars   []int
	}{
		{formula(3, []int{1, 2}, []int{-1, 3}, []int{2, 3}), []int{2, 3}, 0, "[[2 3] [2 3]]", []int{1}}, {formula(3, []int{1, 2}, []int{-1, 3}, []int{2, 3}), nil, 0, "[]", []int{1, 2}}, {formula(3, []int{1, 2}, []int{-1, 3}, []int{2, 3}), []int{1, 2, 3, 1}, 9, "[[1 2] [-1 3] [2 3]]", nil}, {formula(3), nil, 0, "[]", nil}, {formula(3, []int{}), nil, 0, "[[]]", nil},
		{square, []int{2, 3, 4, 5}, 0, "[[2 4] [2 5] [3 4] [3 5]]", []int{1}}, {cube, rest, 2, "[[1 2] [1 3] [1 4] [-1 5] [-1 6] [-1 7]]", nil}, {cube, rest, 3, "[[2 5] [2 6] [2 7] [3 5] [3 6] [3 7] [4 5] [4 6] [4 7]]", []int{1}}, {cube, rest, 1 << 40, "[[2 5] [2 6] [2 7] [3 5] [3 6] [3 7] [4 5] [4 6] [4 7]]", []int{1}}, {cube, []int{1, 3, 4, 5, 6, 7}, 0, "[[1 3] [1 4] [-1 5] [-1 6] [-1 7]]", []int{2}},
		{formula(3, []int{1, -1}, []int{2, 3}), []int{2, 3}, 0, "[[2 3]]", []int{1}}, {formula(2, []int{1}, []int{-1}, []int{2}), nil, 0, "[[]]", []int{1, 2}}, {formula(4, []int{1, 2}, []int{-2, 3}, []int{-3, 4}), []int{1, 4}, 0, "[[1 4]]", []int{2, 3}},
	} {
		old := fmt.Sprint(x.c)
		c, u, e := elim.Elim(x.c, x.frozen, x.grow)
		var vars []int
		for _, y := range u {
			vars = append(vars, y.V)
		}
		if c.N != x.c.N || fmt.Sprint(c.L) != x.l || !slices.Equal(vars, x.vars) || e != api.OK || fmt.Sprint(x.c) != old {
			t.Errorf("%d: %v, %v, %d", i, c, u, e)
		}
	}
	for i, x := range []struct {
		c      api.Cnf
		frozen []int
		grow   int
		e      api.Errno
	}{
		{formula(3), []int{0}, 0, api.ErrArg}, {formula(3), []int{1, 4}, 0, api.ErrArg}, {formula(3), []int{-1}, 0, api.ErrArg}, {formula(3), []int{far}, 0, api.ErrArg}, {formula(3), nil, -1, api.ErrArg}, {formula(3), nil, 1<<40 + 1, api.ErrArg}, {formula(3), nil, far, api.ErrArg}, {formula(3), nil, 1 << 40, api.OK}, {formula(3), []int{3, 1, 3}, 0, api.OK}, {formula(3, []int{4}), nil, 0, api.ErrArg}, {formula(3, make([][]int, 65537)...), []int{0}, -1, api.ErrBound},
	} {
		if c, u, e := elim.Elim(x.c, x.frozen, x.grow); e != x.e || e != api.OK && (!cnf.Same(c, api.Cnf{}) || len(u) > 0) {
			t.Errorf("%d: %d, want %d", i, e, x.e)
		}
	}
}

func TestElimStopsAtTheGreatestNumberOfClauses(t *testing.T) {
	for more, want := range map[int]int{65530: 1, 65531: 0} {
		c := grid(2, 3, more)
		x, u, e := elim.Elim(c, []int{2, 3, 4, 5, 6}, 1<<40)
		if e != api.OK || len(u) != want || len(x.L) != len(c.L)+want {
			t.Error(more, len(u), len(x.L), e)
		}
	}
}

func TestElimMakesRoomForLaterEliminations(t *testing.T) {
	// Without 1 there is one clause less, which is room enough for the one that is more without 2.
	c := formula(9, []int{1, 8}, []int{-1, 9}, []int{2, 3}, []int{2, 4}, []int{-2, 5}, []int{-2, 6}, []int{-2, 7})
	for len(c.L) < 65536 {
		c.L = append(c.L, []int{8})
	}
	for frozen, want := range map[int]int{3: 2, 1: 0} {
		x, u, e := elim.Elim(c, []int{frozen, 3, 4, 5, 6, 7, 8, 9}, 1)
		if e != api.OK || len(u) != want || len(x.L) != 65536 {
			t.Error(frozen, len(u), len(x.L), e)
		}
	}
}

func TestBack(t *testing.T) {
	undo := func(v int, l ...[]int) api.Undo { return api.Undo{V: v, L: l} }
	yes, no := true, false
	for i, x := range []struct {
		u    []api.Undo
		a    []bool
		want []bool
	}{
		{nil, nil, nil}, {nil, []bool{yes, no}, []bool{yes, no}}, {[]api.Undo{undo(1, []int{1, 2}, []int{-1, 3})}, []bool{no, yes, yes, no}, []bool{no, no, yes, no}}, {[]api.Undo{undo(1, []int{1, 2}, []int{-1, 3})}, []bool{no, no, no, yes}, []bool{no, yes, no, yes}}, {[]api.Undo{undo(3, []int{3})}, []bool{no}, []bool{no, no, no, yes}}, {[]api.Undo{undo(2)}, nil, []bool{no, no, no}}, {[]api.Undo{undo(1, []int{-1})}, []bool{yes, yes}, []bool{yes, no}},
		{[]api.Undo{undo(0, []int{}), undo(-1, []int{}), undo(65537, []int{}), undo(far, []int{}), undo(-far-1, []int{})}, []bool{no}, []bool{no}},
		// The last is done first: 2 is true because of its clause, and then 1 because of 2.
		{[]api.Undo{undo(1, []int{1, -2}), undo(2, []int{2})}, nil, []bool{no, yes, yes}}, {[]api.Undo{undo(2, []int{2}), undo(1, []int{1, -2})}, nil, []bool{no, no, yes}}, {[]api.Undo{undo(1, []int{}), undo(1)}, nil, []bool{no, yes}}, {[]api.Undo{undo(1, []int{0, 70000})}, nil, []bool{no, yes}},
		{[]api.Undo{undo(1, []int{-5})}, nil, []bool{no, no}}, {[]api.Undo{undo(1, []int{1, -1}, []int{-1, 2})}, []bool{no, yes, no}, []bool{no, no, no}},
	} {
		old := slices.Clone(x.a)
		if b := elim.Back(x.u, x.a); !slices.Equal(b, x.want) {
			t.Errorf("%d: %v", i, b)
		}
		if !slices.Equal(x.a, old) {
			t.Error("an argument was changed")
		}
	}
	if b := elim.Back([]api.Undo{undo(65536, []int{65536})}, nil); len(b) != 65537 || !b[65536] {
		t.Error(len(b))
	}
}

// outByWords is the elimination in the chapter's words.
func outByWords(c api.Cnf, v int) (l, undo [][]int) {
	has := func(clause []int, lit int) bool { return slices.Contains(clause, lit) }
	for _, clause := range c.L {
		if has(clause, v) || has(clause, -v) {
			undo = append(undo, clause)
		} else {
			l = append(l, clause)
		}
	}
	for _, a := range c.L {
		for _, b := range c.L {
			if has(a, v) && !has(a, -v) && has(b, -v) && !has(b, v) {
				r, _ := cnf.Resolve(a, b, v)
				if _, both := cnf.Norm(r); !both {
					l = append(l, r)
				}
			}
		}
	}
	return l, undo
}

func random(r *sample.Source) api.Cnf {
	c := api.Cnf{N: 1 + r.Below(7)}
	for range r.Below(3 * c.N) {
		var l []int
		for range 1 + r.Below(4) {
			l = append(l, (1+r.Below(c.N))*(1-2*r.Below(2)))
		}
		c.L = append(c.L, l)
	}
	return c
}

// models returns all models of a formula.
func models(c api.Cnf) (l [][]bool) {
	for bits := range 1 << c.N {
		a := make([]bool, c.N+1)
		for v := range c.N {
			a[v+1] = bits>>v&1 == 1
		}
		if cnf.Value(c, a) {
			l = append(l, a)
		}
	}
	return l
}

func TestRandomFormulas(t *testing.T) {
	r := sample.New(1)
	eliminated, some := 0, 0
	for range 2000 {
		c := random(r)
		v := 1 + r.Below(c.N)
		x, u, e := elim.Out(c, v)
		l, undo := outByWords(c, v)
		if e != api.OK || fmt.Sprint(x.L, u.L) != fmt.Sprint(l, undo) || u.V != v {
			t.Fatal(c, v, x, u, e)
		}
		grow := r.Below(3)
		var frozen []int
		for v := 1; v <= c.N; v++ {
			if r.Chance(4) {
				frozen = append(frozen, v)
			}
		}
		y, us, e := elim.Elim(c, frozen, grow)
		if e != api.OK || fmt.Sprint(y, us) != fmt.Sprint(elimByWords(c, frozen, grow)) {
			t.Fatal(c, frozen, grow, y, us, e)
		}
		eliminated += len(us)
		before, after := models(c), models(y)
		if (len(before) > 0) != (len(after) > 0) {
			t.Fatal("satisfiability changed", c, y)
		}
		for _, a := range before {
			if !cnf.Value(y, a) {
				t.Fatal("a model was lost", c, y, a)
			}
		}
		for _, a := range after {
			some++
			back(t, c, us, a)
		}
	}
	if eliminated < 1000 || some < 1000 {
		t.Error(eliminated, some)
	}
}

// back checks that Back turns a model of the remaining clauses into one of the original clauses.
func back(t *testing.T, c api.Cnf, us []api.Undo, a []bool) {
	b := elim.Back(us, a)
	if !cnf.Value(c, b) {
		t.Fatal("not a model", c, us, a, b)
	}
	for v := range a {
		if a[v] != b[v] && !slices.ContainsFunc(us, func(u api.Undo) bool { return u.V == v }) {
			t.Fatal("another variable changed", c, us, a, b)
		}
	}
}

// elimByWords eliminates by Out, one variable after the other.
func elimByWords(c api.Cnf, frozen []int, grow int) (x api.Cnf, us []api.Undo) {
	x = c
	for v := 1; v <= c.N; v++ {
		in := slices.ContainsFunc(x.L, func(l []int) bool { return slices.Contains(l, v) || slices.Contains(l, -v) })
		y, u, e := elim.Out(x, v)
		if in && !slices.Contains(frozen, v) && e == api.OK && len(y.L) <= len(x.L)+grow {
			x, us = y, append(us, u)
		}
	}
	return x, us
}

func TestMemoryIsNotShared(t *testing.T) {
	c := formula(3, []int{1, 2}, []int{-1, 3}, []int{2, 3})
	x, u, _ := elim.Out(c, 1)
	y, us, _ := elim.Elim(c, []int{2, 3}, 0)
	c.L[0][0], c.L[2][0] = 9, 9
	x.L[1][0] = 8
	if fmt.Sprint(x.L, u.L, y.L, us) != "[[2 3] [8 3]] [[1 2] [-1 3]] [[2 3] [2 3]] [{1 [[1 2] [-1 3]]}]" {
		t.Error(x, u, y, us)
	}
	a := []bool{false, false}
	b := elim.Back(nil, a)
	if a[1] = true; b[1] {
		t.Error("Back shares memory")
	}
}
