package learn_test

import (
	"fmt"
	"slices"
	"testing"

	"chalkline/api"
	"chalkline/learn"
	"chalkline/prop"
	"chalkline/sample"
)

const far = 1<<63 - 1

// trail returns steps from literals and reasons, in turn.
func trail(l ...int) (t []api.Step) {
	for i := 0; i < len(l); i += 2 {
		t = append(t, api.Step{Lit: l[i], Why: l[i+1]})
	}
	return t
}

func formula(n int, l ...[]int) api.Cnf { return api.Cnf{N: n, L: l} }

func TestFirst(t *testing.T) {
	three := formula(4, []int{-1, 2}, []int{-1, 3}, []int{-2, -3, -4}, []int{-3, -2}, []int{}, []int{-1, -2})
	zero := formula(6, []int{-1, 2}, []int{-2, 3}, []int{-3, -6, 4, 4}, []int{-3, 5}, []int{-4, -5, -4}, []int{6}, []int{-6})
	for i, x := range []struct {
		c        api.Cnf
		t        []api.Step
		conflict int
		l        []int
		back     int
		e        api.Errno
	}{
		{three, trail(4, -1, 1, -1, 2, 0, 3, 1), 2, []int{-1, -4}, 1, api.OK}, {three, trail(1, -1, 2, 0, 3, 1, 4, -1), 2, []int{-2, -3, -4}, 1, api.OK}, {three, trail(1, -1, 2, 0, 3, 1), 3, []int{-1}, 0, api.OK},
		{three, trail(2, -1, 4, -1, 3, -1), 2, []int{-2, -3, -4}, 2, api.OK}, {three, trail(4, -1, 3, -1, 1, -1, 2, 0), 2, []int{-2, -3, -4}, 2, api.OK},
		{zero, trail(6, 5, 1, -1, 2, 0, 3, 1, 5, 3, 4, 2), 4, []int{-3}, 0, api.OK}, {zero, trail(6, -1, 3, -1, 5, 3, 4, 2), 4, []int{-3, -6}, 1, api.OK},
		{zero, trail(6, 5), 6, nil, 0, api.ErrBack}, {zero, trail(6, 5, 1, -1), 6, nil, 0, api.ErrBack}, {three, nil, 4, nil, 0, api.ErrBack}, {three, trail(1, -1), 4, nil, 0, api.ErrBack}, {three, trail(1, -1, 2, 0, 4, -1), 5, nil, 0, api.ErrBack}, {three, trail(1, -1, 2, 0), 5, []int{-1}, 0, api.OK},
		{three, trail(1, -1, 2, 0), 2, nil, 0, api.ErrArg}, {three, trail(1, -1), -1, nil, 0, api.ErrArg}, {three, trail(1, -1), 6, nil, 0, api.ErrArg}, {three, trail(1, -1), far, nil, 0, api.ErrArg}, {three, trail(1, -1), -far - 1, nil, 0, api.ErrArg}, {three, nil, 0, nil, 0, api.ErrArg},
		{three, trail(2, 0), 9, nil, 0, api.ErrArg}, {formula(-1), nil, 0, nil, 0, api.ErrArg}, {formula(1, make([][]int, 65537)...), nil, 0, nil, 0, api.ErrBound},
	} {
		if l, back, e := learn.First(x.c, x.t, x.conflict); !slices.Equal(l, x.l) || back != x.back || e != x.e {
			t.Errorf("%d: %v, %d, %d", i, l, back, e)
		}
	}
}

func TestLess(t *testing.T) {
	two := formula(3, []int{-1, 2})
	deep := formula(7, []int{-1, 2}, []int{-2, 3}, []int{7}, []int{-7, -2, -4, 5}, []int{-5, -3, 6, 6})
	d := trail(7, 2, 1, -1, 2, 0, 3, 1, 4, -1, 5, 3, 6, 4)
	for i, x := range []struct {
		c    api.Cnf
		t    []api.Step
		l    []int
		want []int
		e    api.Errno
	}{
		{two, trail(1, -1, 2, 0, 3, -1), []int{-1, -2, -3}, []int{-1, -3}, api.OK}, {two, trail(1, -1, 2, 0, 3, -1), []int{-3, -2}, []int{-2, -3}, api.OK}, {two, trail(1, -1, 2, 0), []int{-2, -1}, []int{-1, -2}, api.OK}, {two, trail(1, -1, 2, 0), nil, nil, api.OK},
		{deep, d, []int{-7}, nil, api.OK}, {deep, d, []int{-7, -1}, []int{-1}, api.OK}, {deep, d, []int{-3, -1, -4}, []int{-1, -4}, api.OK}, {deep, d, []int{-3, -4, -7}, []int{-3, -4}, api.OK}, {deep, d, []int{-6, -1}, []int{-1, -6}, api.OK}, {deep, d, []int{-6, -5, -4, -3, -2, -1, -7}, []int{-1, -4, -5, -6}, api.OK}, {deep, d, []int{-6, -2, -3}, []int{-2, -6}, api.OK},
		{deep, d, []int{-1, -1}, nil, api.ErrArg}, {deep, d, []int{1}, nil, api.ErrArg}, {deep, d, []int{-1, 1}, nil, api.ErrArg}, {deep, d, []int{0}, nil, api.ErrArg}, {deep, d, []int{8}, nil, api.ErrArg}, {deep, d, []int{-8}, nil, api.ErrArg}, {deep, d, []int{far}, nil, api.ErrArg}, {deep, d, []int{-far - 1}, nil, api.ErrArg}, {deep, d[:4], []int{-4}, nil, api.ErrArg},
		{deep, d[1:], []int{-1}, nil, api.ErrArg}, {two, trail(2, 0), []int{-2}, nil, api.ErrArg}, {formula(-1), nil, nil, nil, api.ErrArg}, {formula(1, make([][]int, 65537)...), nil, []int{0}, nil, api.ErrBound}, {formula(1), nil, nil, nil, api.OK},
	} {
		old := slices.Clone(x.l)
		if l, e := learn.Less(x.c, x.t, x.l); !slices.Equal(l, x.want) || e != x.e {
			t.Errorf("%d: %v, %d", i, l, e)
		}
		if !slices.Equal(x.l, old) {
			t.Error("an argument was changed")
		}
	}
}

// level returns the level of the step that made a literal false.
func level(t []api.Step, lit int) int {
	return prop.Levels(t)[slices.IndexFunc(t, func(s api.Step) bool { return s.Lit == -lit })]
}

// firstByWords is the analysis in the chapter's words.
func firstByWords(c api.Cnf, t []api.Step, conflict int) (l []int, back int) {
	last := level(t, -t[len(t)-1].Lit)
	set := slices.Clone(c.L[conflict])
	for {
		slices.Sort(set)
		set = slices.Compact(set)
		var latest []int // the indices of the steps of the literals at the last level
		for i, s := range t {
			if slices.Contains(set, -s.Lit) && level(t, -s.Lit) == last {
				latest = append(latest, i)
			}
		}
		if len(latest) <= 1 {
			break
		}
		s := t[latest[len(latest)-1]]
		set = slices.DeleteFunc(set, func(x int) bool { return x == -s.Lit })
		for _, x := range c.L[s.Why] {
			if x != s.Lit {
				set = append(set, x)
			}
		}
	}
	set = slices.DeleteFunc(set, func(x int) bool { return level(t, x) == 0 })
	for _, x := range set {
		if level(t, x) != last {
			back = max(back, level(t, x))
		}
	}
	slices.SortFunc(set, func(a, b int) int { return max(a, -a) - max(b, -b) })
	return set, back
}

// redundant is the chapter's definition.
func redundant(c api.Cnf, t []api.Step, l []int, x int) bool {
	if level(t, x) == 0 {
		return true
	}
	s := t[slices.IndexFunc(t, func(s api.Step) bool { return s.Lit == -x })]
	if s.Why == -1 {
		return false
	}
	return !slices.ContainsFunc(c.L[s.Why], func(y int) bool { return y != s.Lit && !slices.Contains(l, y) && !redundant(c, t, l, y) })
}

func lessByWords(c api.Cnf, t []api.Step, l []int) (out []int) {
	greatest := 0
	for _, x := range l {
		greatest = max(greatest, level(t, x))
	}
	for _, x := range l {
		if !redundant(c, t, l, x) || level(t, x) == greatest && greatest > 0 {
			out = append(out, x)
		}
	}
	slices.SortFunc(out, func(a, b int) int { return max(a, -a) - max(b, -b) })
	return out
}

// refuted reports whether unit propagation refutes the negations of the literals of l.
func refuted(c api.Cnf, l []int) bool {
	var t []api.Step
	for _, lit := range l {
		t = append(t, api.Step{Lit: -lit, Why: -1})
	}
	_, conflict, e := prop.Prop(c, t)
	return e == api.OK && conflict != -1
}

func TestRandomConflicts(t *testing.T) {
	r := sample.New(1)
	seen, shorter, jumps := 0, 0, 0
	for seen < 1500 {
		n := 4 + r.Below(9)
		c := api.Cnf{N: n}
		for range 3 * n {
			var l []int
			for range 1 + min(r.Below(9), 2) {
				l = append(l, (1+r.Below(n))*(1-2*r.Below(2)))
			}
			c.L = append(c.L, l)
		}
		tr, conflict, _ := prop.Prop(c, nil)
		for conflict == -1 && len(tr) < n {
			lit := (1 + r.Below(n)) * (1 - 2*r.Below(2))
			if !slices.ContainsFunc(tr, func(s api.Step) bool { return s.Lit == lit || s.Lit == -lit }) {
				tr, conflict, _ = prop.Prop(c, append(tr, api.Step{Lit: lit, Why: -1}))
			}
		}
		levels := prop.Levels(tr)
		if conflict == -1 {
			continue
		}
		old := fmt.Sprint(c, tr)
		l, back, e := learn.First(c, tr, conflict)
		if len(tr) == 0 || levels[len(tr)-1] == 0 {
			if e != api.ErrBack || len(l) > 0 || back != 0 {
				t.Fatal(l, back, e)
			}
			continue
		}
		seen++
		want, wantBack := firstByWords(c, tr, conflict)
		if e != api.OK || !slices.Equal(l, want) || back != wantBack {
			t.Fatal(c, tr, conflict, l, want, back, wantBack, e)
		}
		less, e := learn.Less(c, tr, l)
		if e != api.OK || !slices.Equal(less, lessByWords(c, tr, l)) || fmt.Sprint(c, tr) != old {
			t.Fatal(c, tr, l, less, e)
		}
		if len(less) < len(l) {
			shorter++
		}
		if back > 0 {
			jumps++
		}
		follows(t, c, tr, l, less, back)
		// Any false literals make a clause to minimize.
		var any []int
		for _, s := range tr {
			if r.Chance(2) {
				any = append(any, -s.Lit)
			}
		}
		if x, e := learn.Less(c, tr, any); e != api.OK || !slices.Equal(x, lessByWords(c, tr, any)) {
			t.Fatal(c, tr, any, x, e)
		}
	}
	if shorter < 20 || jumps < 100 {
		t.Error(shorter, jumps)
	}
}

// follows checks what the chapter says of learned clauses.
func follows(t *testing.T, c api.Cnf, tr []api.Step, l, less []int, back int) {
	if !refuted(c, l) || !refuted(c, less) {
		t.Fatal("does not follow by unit propagation", c, tr, l, less)
	}
	last, at := prop.Levels(tr)[len(tr)-1], 0
	for _, x := range l {
		if level(tr, x) == last {
			at++
		}
	}
	open := 0
	for _, x := range l {
		if !slices.ContainsFunc(prop.Back(tr, back), func(s api.Step) bool { return s.Lit == -x }) {
			open++
		}
	}
	if at != 1 || open != 1 || back >= last {
		t.Fatal("not asserting", c, tr, l, back)
	}
}

// The reasons of this trail meet again and again: there are 2 to the power of 200 paths through them.
func TestManyPaths(t *testing.T) {
	c := api.Cnf{N: 603}
	tr := trail(1, -1)
	for i := range 200 {
		a := 1 + 3*i
		c.L = append(c.L, []int{-a, a + 1}, []int{-a, a + 2}, []int{-a - 1, -a - 2, a + 3})
		tr = append(tr, trail(a+1, 3*i, a+2, 3*i+1, a+3, 3*i+2)...)
	}
	c.L = append(c.L, []int{-601, -602})
	tr = append(tr, trail(602, -1)...)
	if l, e := learn.Less(c, tr, []int{-601, -1, -602}); e != api.OK || !slices.Equal(l, []int{-1, -602}) {
		t.Error(l, e)
	}
	if l, e := learn.Less(c, tr, []int{-601, -602}); e != api.OK || !slices.Equal(l, []int{-601, -602}) {
		t.Error(l, e)
	}
	if l, back, e := learn.First(c, tr, 600); e != api.OK || back != 1 || !slices.Equal(l, []int{-601, -602}) {
		t.Error(l, back, e)
	}
}
