package solver_test

import (
	"fmt"
	"reflect"
	"slices"
	"testing"

	"chalkline/api"
	"chalkline/heap"
	"chalkline/solver"
)

const (
	far  = 1<<63 - 1
	most = 1 << 40
)

// none is what comes beside an error.
func none(s api.Solver) bool { return reflect.DeepEqual(s, api.Solver{}) }

func lines(kind int, l ...[]int) (p []api.Line) {
	for _, x := range l {
		p = append(p, api.Line{Kind: kind, L: x})
	}
	return p
}

// two is a valid solver with something in every field.
func two() api.Solver {
	return api.Solver{
		N: 2, Given: [][]int{{1, -2}, {}, {2, 2}}, Learnt: []api.Learnt{{L: []int{1}, Levels: 1, Act: 5}, {L: []int{-1, 2}, Levels: most, Act: most}},
		Heap: api.Heap{Act: []int{0, 3, 7}, L: []int{2, 1}, By: 4}, Phase: []bool{false, true, false},
		Proof: append(lines(api.GivenP, []int{1, -2}, nil), lines(api.DropP, []int{2, 2})...),
	}
}

func TestNew(t *testing.T) {
	for n, want := range map[int]api.Errno{0: api.OK, 1: api.OK, 7: api.OK, 65536: api.OK, 65537: api.ErrArg, -1: api.ErrArg, far: api.ErrArg, -far - 1: api.ErrArg} {
		s, e := solver.New(n)
		if e != want || e != api.OK && !none(s) {
			t.Errorf("New(%d): %d", n, e)
		}
		if e != api.OK {
			continue
		}
		h, _ := heap.New(n)
		if s.N != n || !reflect.DeepEqual(s.Heap, h) || !slices.Equal(s.Phase, make([]bool, n+1)) || len(s.Given)+len(s.Learnt)+len(s.Proof) > 0 || solver.Check(s) != api.OK {
			t.Errorf("New(%d): %v", n, s)
		}
	}
}

// spoilt are solvers that are not valid, with what Check reports.
func spoilt() []struct {
	s api.Solver
	e api.Errno
} {
	var out []struct {
		s api.Solver
		e api.Errno
	}
	add := func(e api.Errno, change func(s *api.Solver)) {
		s := two()
		change(&s)
		out = append(out, struct {
			s api.Solver
			e api.Errno
		}{s, e})
	}
	many := make([][]int, 65537)
	add(api.ErrArg, func(s *api.Solver) { *s = api.Solver{} })
	for _, n := range []int{-1, 1, 3, 65537, far, -far - 1} {
		add(api.ErrArg, func(s *api.Solver) { s.N = n })
	}
	add(api.ErrArg, func(s *api.Solver) { s.Heap.By = 0 })
	add(api.ErrArg, func(s *api.Solver) { s.Heap.L = []int{1, 2} })
	add(api.ErrArg, func(s *api.Solver) { s.Heap.L = []int{2} })
	add(api.ErrArg, func(s *api.Solver) { s.Heap.L = nil })
	add(api.ErrArg, func(s *api.Solver) { s.Heap.Act = []int{0, 3} })
	add(api.ErrArg, func(s *api.Solver) { s.Heap.Act = []int{0, 3, 7, 1} })
	add(api.ErrArg, func(s *api.Solver) { s.Phase = s.Phase[:2] })
	add(api.ErrArg, func(s *api.Solver) { s.Phase = append(s.Phase, false) })
	add(api.ErrArg, func(s *api.Solver) { s.Phase = nil })
	add(api.ErrArg, func(s *api.Solver) { s.Phase = []bool{true, false, false} })
	add(api.ErrArg, func(s *api.Solver) { s.Given = [][]int{{3}} })
	add(api.ErrArg, func(s *api.Solver) { s.Given = [][]int{{1, 0}} })
	add(api.ErrBound, func(s *api.Solver) { s.Given = many })
	add(api.ErrBound, func(s *api.Solver) { s.Given, s.Learnt[0].Levels = many, -1 })
	add(api.ErrArg, func(s *api.Solver) { s.Given, s.Phase = many, nil })
	add(api.ErrArg, func(s *api.Solver) { s.Learnt[1].L = nil })
	for _, n := range []int{-1, most + 1, far, -far - 1} {
		add(api.ErrArg, func(s *api.Solver) { s.Learnt[1].Levels = n })
		add(api.ErrArg, func(s *api.Solver) { s.Learnt[0].Act = n })
	}
	add(api.ErrArg, func(s *api.Solver) { s.Learnt[1].L = []int{1, 3} })
	add(api.ErrArg, func(s *api.Solver) { s.Learnt[1].L = []int{0} })
	crowd := slices.Repeat([]api.Learnt{{L: []int{1}}}, 65537)
	add(api.ErrBound, func(s *api.Solver) { s.Learnt = crowd })
	add(api.OK, func(s *api.Solver) { s.Learnt = crowd[1:] })
	add(api.ErrArg, func(s *api.Solver) { s.Learnt = append(crowd, api.Learnt{}) })
	add(api.ErrBound, func(s *api.Solver) { s.Learnt, s.Proof[0].Kind = crowd, 0 })
	for _, kind := range []int{0, 4, -1, far} {
		add(api.ErrArg, func(s *api.Solver) { s.Proof[2].Kind = kind })
	}
	for _, lit := range []int{0, 3, -3, far, -far - 1} {
		add(api.ErrArg, func(s *api.Solver) { s.Proof[2].L = []int{1, lit} })
	}
	add(api.OK, func(s *api.Solver) { s.Proof = slices.Repeat(s.Proof, 30000) })
	add(api.OK, func(s *api.Solver) {})
	return out
}

func TestCheck(t *testing.T) {
	for i, x := range spoilt() {
		if e := solver.Check(x.s); e != x.e {
			t.Errorf("%d: %d, want %d", i, e, x.e)
		}
		if x.e == api.OK {
			continue
		}
		a, e1 := solver.Grow(x.s, -1)
		b, e2 := solver.Add(x.s, []int{9})
		c, y, e3 := solver.Solve(x.s, []int{9}, -1)
		if e1 != x.e || e2 != x.e || e3 != x.e || !none(a) || !none(b) || !none(c) || !reflect.DeepEqual(y, api.Answer{}) {
			t.Errorf("%d: %d, %d, %d, want %d", i, e1, e2, e3, x.e)
		}
	}
}

func TestGrow(t *testing.T) {
	for n, want := range map[int]api.Errno{2: api.OK, 3: api.OK, 5: api.OK, 65536: api.OK, 1: api.ErrArg, 0: api.ErrArg, -1: api.ErrArg, 65537: api.ErrArg, far: api.ErrArg, -far - 1: api.ErrArg} {
		s, e := solver.Grow(two(), n)
		if e != want || e != api.OK && !none(s) {
			t.Errorf("Grow to %d: %d", n, e)
		}
		if e != api.OK {
			continue
		}
		x := two()
		x.N, x.Phase = n, append(x.Phase, make([]bool, n-2)...)
		x.Heap.Act = append(x.Heap.Act, make([]int, n-2)...)
		for v := 3; v <= n; v++ {
			x.Heap.L = append(x.Heap.L, v)
		}
		if !reflect.DeepEqual(s, x) || solver.Check(s) != api.OK {
			t.Errorf("Grow to %d: %v", n, s)
		}
	}
}

func TestAdd(t *testing.T) {
	for i, x := range []struct {
		l []int
		e api.Errno
	}{
		{nil, api.OK}, {[]int{1}, api.OK}, {[]int{2, -2, 1, 1}, api.OK}, {[]int{0}, api.ErrLit}, {[]int{1, 3}, api.ErrLit}, {[]int{-3}, api.ErrLit}, {[]int{far}, api.ErrLit}, {[]int{-far - 1}, api.ErrLit},
	} {
		s, e := solver.Add(two(), x.l)
		want := two()
		want.Given, want.Proof = append(want.Given, x.l), append(want.Proof, api.Line{Kind: api.GivenP, L: x.l})
		if e != x.e || e != api.OK && !none(s) || e == api.OK && fmt.Sprint(s) != fmt.Sprint(want) {
			t.Errorf("%d: %v, %d", i, s, e)
		}
	}
	s := two()
	s.Given = make([][]int, 65535)
	full, e := solver.Add(s, []int{1})
	if e != api.OK || len(full.Given) != 65536 {
		t.Error(len(full.Given), e)
	}
	if x, e := solver.Add(full, []int{1}); e != api.ErrBound || !none(x) {
		t.Error(e)
	}
	if x, e := solver.Add(full, []int{3}); e != api.ErrLit || !none(x) {
		t.Error(e)
	}
}

func TestSolversShareNothingThatChanges(t *testing.T) {
	s := two()
	s.Given = append(make([][]int, 0, 9), s.Given...)
	s.Proof = append(make([]api.Line, 0, 9), s.Proof...)
	s.Phase = append(make([]bool, 0, 9), s.Phase...)
	s.Heap.L, s.Heap.Act = append(make([]int, 0, 9), s.Heap.L...), append(make([]int, 0, 9), s.Heap.Act...)
	old := fmt.Sprint(s)
	l := []int{1, 2}
	a, _ := solver.Add(s, l)
	b, _ := solver.Add(s, []int{-1})
	l[0] = 2
	c, _ := solver.Grow(s, 3)
	d, _ := solver.Grow(s, 4)
	if fmt.Sprint(s) != old || fmt.Sprint(a.Given[3], a.Proof[3].L, b.Given[3], b.Proof[3].L) != "[1 2] [1 2] [-1] [-1]" || c.N != 3 || len(c.Phase) != 4 || len(d.Heap.L) != 4 || c.Heap.L[2] != 3 {
		t.Error("solvers share memory")
	}
	if s.Given[:4][3] != nil || s.Proof[:4][3].Kind != 0 || s.Heap.L[:3][2] != 0 || s.Heap.Act[:4][3] != 0 {
		t.Error("wrote behind an argument")
	}
	e, _ := solver.New(3)
	e, _ = solver.Add(e, []int{1, 2, 3})
	e, _ = solver.Add(e, []int{-1, -2, 3})
	before := fmt.Sprint(e)
	x, answer, _ := solver.Solve(e, []int{-3}, 100)
	want := fmt.Sprint(x, answer)
	y, again, _ := solver.Solve(e, []int{-3}, 100)
	if fmt.Sprint(e) != before || fmt.Sprint(y, again) != want {
		t.Error("a search changed its argument, or depends on something else")
	}
}

func TestSolveErrors(t *testing.T) {
	s, _ := solver.New(3)
	for i, x := range []struct {
		assume []int
		budget int
		e      api.Errno
	}{
		{nil, 0, api.OK}, {nil, most, api.OK}, {[]int{3, -1, 2}, 5, api.OK}, {nil, -1, api.ErrArg}, {nil, most + 1, api.ErrArg}, {nil, far, api.ErrArg}, {nil, -far - 1, api.ErrArg}, {[]int{0}, 5, api.ErrArg}, {[]int{4}, 5, api.ErrArg}, {[]int{-4}, 5, api.ErrArg}, {[]int{far}, 5, api.ErrArg}, {[]int{-far - 1}, 5, api.ErrArg}, {[]int{1, 1}, 5, api.ErrArg}, {[]int{1, -1}, 5, api.ErrArg}, {[]int{1, 2, -1}, 5, api.ErrArg},
	} {
		y, a, e := solver.Solve(s, x.assume, x.budget)
		if e != x.e || e != api.OK && (!none(y) || !reflect.DeepEqual(a, api.Answer{})) {
			t.Errorf("%d: %d, want %d", i, e, x.e)
		}
	}
}
