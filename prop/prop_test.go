package prop_test

import (
	"fmt"
	"slices"
	"testing"

	"chalkline/api"
	"chalkline/cnf"
	"chalkline/prop"
	"chalkline/sample"
)

const far = 1<<63 - 1

// trail returns steps from literals and reasons, in turn.
func trail(l ...int) (t []api.Step) {
	for i := 0; i < len(l); i += 2 {
		t = append(t, api.Step{Lit: l[i], Why: l[i+1]})
	}
	return t
}

func formula(n int, l ...[]int) api.Cnf { return api.Cnf{N: n, L: l} }

func TestCheck(t *testing.T) {
	c := formula(4, []int{-1, 2}, []int{-2, -1, 3, 3}, []int{4}, []int{}, []int{-3, 3, 1})
	for i, x := range []struct {
		c api.Cnf
		t []api.Step
		e api.Errno
	}{
		{c, nil, api.OK}, {c, trail(1, -1), api.OK}, {c, trail(1, -1, 2, 0), api.OK}, {c, trail(1, -1, 2, 0, 3, 1), api.OK}, {c, trail(4, 2), api.OK}, {c, trail(4, 2, -2, -1, -1, 0), api.OK}, {c, trail(1, -1, -3, -1, -2, 1), api.OK}, {c, trail(-3, -1, 1, -1, -2, 1), api.OK},
		{c, trail(0, -1), api.ErrArg}, {c, trail(5, -1), api.ErrArg}, {c, trail(-5, -1), api.ErrArg}, {c, trail(far, -1), api.ErrArg}, {c, trail(-far-1, -1), api.ErrArg}, {c, trail(1, -1, 1, -1), api.ErrArg}, {c, trail(1, -1, -1, -1), api.ErrArg}, {c, trail(-1, -1, 2, -1, 1, -1), api.ErrArg},
		{c, trail(2, 0), api.ErrArg}, {c, trail(2, 0, 1, -1), api.ErrArg}, {c, trail(1, -1, 2, 1), api.ErrArg}, {c, trail(1, -1, 3, 1), api.ErrArg}, {c, trail(1, -1, -2, 0), api.ErrArg}, {c, trail(1, -1, 4, 0), api.ErrArg}, {c, trail(1, 3), api.ErrArg}, {c, trail(1, -2), api.ErrArg}, {c, trail(1, 5), api.ErrArg}, {c, trail(1, far), api.ErrArg}, {c, trail(1, -far-1), api.ErrArg},
		{c, trail(-1, -1, 3, 4), api.ErrArg}, {c, trail(-1, -1, -3, 4), api.ErrArg}, {c, trail(-4, -1, 4, 2), api.ErrArg}, {c, trail(4, 2, 4, 2), api.ErrArg}, {c, trail(-1, -1, 2, 0), api.ErrArg}, {c, trail(1, -1, 2, 0, -3, 1), api.ErrArg},
		{formula(1, []int{2}), trail(0, -1), api.ErrArg}, {formula(-1), nil, api.ErrArg}, {formula(1, make([][]int, 65537)...), trail(9, 9), api.ErrBound}, {formula(65536), trail(65536, -1, -65535, -1), api.OK},
	} {
		if e := prop.Check(x.c, x.t); e != x.e {
			t.Errorf("%d: %d, want %d", i, e, x.e)
		}
		if out, conflict, e := prop.Prop(x.c, x.t); e != x.e || e != api.OK && (len(out) > 0 || conflict != 0) {
			t.Errorf("%d: Prop gives %v, %d, %d, want %d", i, out, conflict, e, x.e)
		}
	}
}

func TestLevelsAndBack(t *testing.T) {
	for i, x := range []struct {
		t      []api.Step
		levels []int
	}{
		{nil, nil}, {trail(1, 5), []int{0}}, {trail(1, -1), []int{1}}, {trail(3, 0, 1, -1, 2, 7, 4, -1, 5, -1, 6, 2), []int{0, 1, 1, 2, 3, 3}}, {trail(0, -1, 0, -2, far, far, -far-1, -1), []int{1, 1, 1, 2}},
	} {
		old := slices.Clone(x.t)
		if l := prop.Levels(x.t); !slices.Equal(l, x.levels) {
			t.Errorf("%d: %v", i, l)
		}
		for _, level := range []int{-far - 1, -1, 0, 1, 2, 3, 4, far} {
			n := 0
			for n < len(x.t) && x.levels[n] <= level {
				n++
			}
			if b := prop.Back(x.t, level); !slices.Equal(b, x.t[:n]) {
				t.Errorf("%d: back to %d: %v", i, level, b)
			} else if n > 0 {
				b[0].Lit = 99
				if !slices.Equal(x.t, old) {
					t.Error("a result shares memory with an argument")
				}
			}
		}
	}
}

func TestTheExampleOfTheChapter(t *testing.T) {
	c := formula(3, []int{-1, 2}, []int{-2, 3})
	if out, conflict, e := prop.Prop(c, trail(1, -1)); !slices.Equal(out, trail(1, -1, 2, 0, 3, 1)) || conflict != -1 || e != api.OK {
		t.Error(out, conflict, e)
	}
	c.L = append(c.L, []int{-1, -3})
	if out, conflict, e := prop.Prop(c, trail(1, -1)); conflict < 0 || conflict > 2 || prop.Check(c, out) != api.OK || e != api.OK {
		t.Error(out, conflict, e)
	}
}

// fixed propagates by going over all clauses again and again. It returns the true literals and whether a clause is falsified.
func fixed(c api.Cnf, t []api.Step) (map[int]bool, bool) {
	truth := map[int]bool{}
	for _, s := range t {
		truth[s.Lit] = true
	}
	for again := true; again; {
		again = false
		for _, l := range c.L {
			if slices.ContainsFunc(l, func(lit int) bool { return truth[lit] }) {
				continue
			}
			var open []int
			for _, lit := range l {
				if !truth[-lit] && !slices.Contains(open, lit) {
					open = append(open, lit)
				}
			}
			if len(open) == 0 {
				return truth, true
			}
			if len(open) == 1 {
				truth[open[0]], again = true, true
			}
		}
	}
	return truth, false
}

func random(r *sample.Source, n int) api.Cnf {
	c := api.Cnf{N: n}
	for range r.Below(4 * n) {
		var l []int
		for range r.Below(4) + r.Below(2) {
			l = append(l, (1+r.Below(n))*(1-2*r.Below(2)))
		}
		if len(l) > 0 || r.Chance(20) {
			c.L = append(c.L, l)
		}
	}
	return c
}

// held checks a result of Prop against the promise.
func held(c api.Cnf, t, out []api.Step, conflict int) string {
	truth := map[int]bool{}
	for _, s := range out {
		truth[s.Lit] = true
	}
	more := out[min(len(t), len(out)):]
	want, falsified := fixed(c, t)
	switch {
	case !slices.Equal(out[:min(len(t), len(out))], t):
		return "does not start with the trail"
	case slices.ContainsFunc(more, func(s api.Step) bool { return s.Why == -1 }):
		return "decides"
	case prop.Check(c, out) != api.OK:
		return "not a valid trail"
	case falsified != (conflict != -1):
		return "another conflict"
	case conflict != -1 && (conflict < 0 || conflict >= len(c.L) || slices.ContainsFunc(c.L[conflict], func(lit int) bool { return !truth[-lit] })):
		return "a conflict that is none"
	case conflict == -1 && fmt.Sprint(truth) != fmt.Sprint(want):
		return "another fixed point"
	}
	return ""
}

func TestPropOfRandomFormulas(t *testing.T) {
	r := sample.New(1)
	conflicts, longer := 0, 0
	for range 4000 {
		n := 1 + r.Below(9)
		c := random(r, n)
		old := fmt.Sprint(c)
		var tr []api.Step
		for range r.Below(5) {
			lit := (1 + r.Below(n)) * (1 - 2*r.Below(2))
			if !slices.ContainsFunc(tr, func(s api.Step) bool { return s.Lit == lit || s.Lit == -lit }) {
				tr = append(tr, api.Step{Lit: lit, Why: -1})
			}
			if r.Chance(2) {
				continue
			}
			// Sometimes the trail holds implied steps already.
			if out, conflict, _ := prop.Prop(c, tr); conflict == -1 {
				tr = out[:len(tr)+r.Below(len(out)-len(tr)+1)]
			}
		}
		before := slices.Clone(tr)
		out, conflict, e := prop.Prop(c, tr)
		if wrong := held(c, tr, out, conflict); wrong != "" || e != api.OK {
			t.Fatalf("%v %v: %v, %d: %s", c, tr, out, conflict, wrong)
		}
		if fmt.Sprint(c) != old || !slices.Equal(tr, before) {
			t.Fatal("an argument was changed")
		}
		if conflict != -1 {
			conflicts++
		}
		if len(out) > len(tr) {
			longer++
		}
		modelsAgree(t, c, tr, out, conflict)
	}
	if conflicts < 500 || longer < 1000 {
		t.Error(conflicts, longer)
	}
}

// modelsAgree checks that every model that agrees with the decisions satisfies the whole trail.
func modelsAgree(t *testing.T, c api.Cnf, tr, out []api.Step, conflict int) {
	for bits := range 1 << c.N {
		a := make([]bool, c.N+1)
		for v := range c.N {
			a[v+1] = bits>>v&1 == 1
		}
		holds := func(s api.Step) bool { return a[max(s.Lit, -s.Lit)] == (s.Lit > 0) }
		if !cnf.Value(c, a) || slices.ContainsFunc(tr, func(s api.Step) bool { return s.Why == -1 && !holds(s) }) {
			continue
		}
		if conflict != -1 || slices.ContainsFunc(out, func(s api.Step) bool { return !holds(s) }) {
			t.Fatal("a model disagrees", c, tr, out, conflict, a)
		}
	}
}

func TestPropOfALongChain(t *testing.T) {
	n := 60000
	c := api.Cnf{N: n}
	for i := n - 1; i > 0; i-- {
		c.L = append(c.L, []int{-i, i + 1})
	}
	out, conflict, e := prop.Prop(c, trail(1, -1))
	if len(out) != n || conflict != -1 || e != api.OK || out[n-1].Lit != n {
		t.Error(len(out), conflict, e)
	}
	c.L = append(c.L, []int{-n})
	if _, conflict, e := prop.Prop(c, trail(1, -1)); conflict < 0 || e != api.OK {
		t.Error(conflict, e)
	}
}
