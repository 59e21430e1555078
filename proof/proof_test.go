package proof_test

import (
	"fmt"
	"slices"
	"testing"

	"chalkline/api"
	"chalkline/cnf"
	"chalkline/proof"
	"chalkline/sample"
)

const far = 1<<63 - 1

// odd are integers that are no literals.
var odd = []int{0, 65537, -65537, far, -far - 1}

func formula(n int, l ...[]int) api.Cnf { return api.Cnf{N: n, L: l} }

func given(l ...int) api.Line { return api.Line{Kind: api.GivenP, L: l} }

func learnt(l ...int) api.Line { return api.Line{Kind: api.LearntP, L: l} }

func drop(l ...int) api.Line { return api.Line{Kind: api.DropP, L: l} }

func TestFollows(t *testing.T) {
	two := [][]int{{1, 2}, {-1, 2}}
	four := [][]int{{1, 2}, {-1, 2}, {1, -2}, {-1, -2}}
	for i, x := range []struct {
		c    [][]int
		l    []int
		want bool
	}{
		{two, []int{2}, true}, {four, nil, false}, {append(four[:4:4], []int{2}), nil, true}, {two, nil, false}, {two, []int{1}, false}, {two, []int{-2}, false}, {two, []int{2, 7}, true}, {nil, nil, false}, {nil, []int{1}, false}, {nil, []int{1, -1}, true}, {nil, []int{3, 2, -3}, true}, {[][]int{{}}, nil, true}, {[][]int{{}}, []int{5}, true},
		{[][]int{{1}}, []int{1}, true}, {[][]int{{1}}, []int{-1}, false}, {[][]int{{1}, {-1}}, nil, true}, {[][]int{{1, 1}, {-1, -1, 2}}, []int{2, 2}, true}, {[][]int{{1, -1}}, nil, false}, {[][]int{{1, -1, 2}}, []int{2}, false}, {[][]int{{1, 2, 3}}, []int{3, 1, 2}, true}, {[][]int{{1, 2, 3}}, []int{1, 2}, false}, {[][]int{{1}, {-1, 2}, {-2, 3}, {-3, -1}}, nil, true}, {[][]int{{-3, -1}, {-2, 3}, {-1, 2}, {1}}, nil, true},
		{[][]int{odd}, nil, true}, {[][]int{append([]int{4}, odd...)}, []int{4}, true}, {[][]int{append([]int{4}, odd...)}, []int{5}, false}, {[][]int{{4}}, append([]int{4}, odd...), true}, {[][]int{{4}}, odd, false}, {nil, []int{0, 0}, false}, {nil, []int{65537, -65537}, false}, {[][]int{{65536}, {-65536, -65535}}, []int{-65535}, true},
	} {
		old := fmt.Sprint(x.c, x.l)
		if proof.Follows(x.c, x.l) != x.want || fmt.Sprint(x.c, x.l) != old {
			t.Errorf("%d: not %v", i, x.want)
		}
	}
}

func TestCheck(t *testing.T) {
	c := formula(2, []int{1, 2}, []int{-1, 2}, []int{1, -2}, []int{-1, -2})
	all := []api.Line{given(1, 2), given(-1, 2), given(1, -2), given(-1, -2)}
	with := func(more ...api.Line) []api.Line { return append(slices.Clone(all), more...) }
	for i, x := range []struct {
		c    api.Cnf
		p    []api.Line
		core []int
		e    api.Errno
	}{
		{c, with(learnt(2)), nil, api.OK}, {c, with(), nil, api.ErrStep}, {c, with(), []int{1}, api.OK}, {c, with(), []int{-2}, api.OK}, {c, with(learnt(2), learnt()), nil, api.OK}, {c, with(learnt()), nil, api.ErrStep}, {c, with(learnt()), []int{1}, api.ErrStep}, {c, nil, nil, api.ErrStep}, {c, nil, []int{1}, api.ErrStep}, {c, all[:2], []int{-2}, api.OK}, {c, all[:2], []int{1}, api.ErrStep},
		{c, with(given(1)), nil, api.ErrStep}, {c, with(given()), nil, api.ErrStep}, {c, with(given(3, 1)), nil, api.ErrStep}, {c, []api.Line{given(2, 1, 2), given(2, -1, -1)}, []int{-2}, api.OK}, {c, with(learnt(3, -3), learnt(2)), nil, api.OK}, {c, with(learnt(9, 2)), nil, api.ErrStep}, {c, with(learnt(9, 2)), []int{1}, api.OK}, {c, with(learnt(65536, 2), learnt(2)), nil, api.OK},
		{c, with(learnt(2), drop(1, 2), drop(-1, 2)), nil, api.OK}, {c, with(learnt(2), drop(2)), nil, api.ErrStep}, {c, with(learnt(2), learnt(2), drop(2)), nil, api.OK}, {c, with(learnt(2), drop(2, 2)), nil, api.ErrStep}, {c, with(drop(2, 1, 1), learnt(2)), nil, api.ErrStep}, {c, with(drop(1)), []int{1}, api.ErrStep}, {c, with(drop(1, 2), drop(1, 2)), []int{1}, api.ErrStep}, {c, with(drop(1, 2), given(1, 2), learnt(2)), nil, api.OK},
		{c, with(learnt(2), learnt(1), drop(1, -2), drop(1, 2), drop(-1, 2)), nil, api.OK}, {c, with(learnt(2), learnt(1), drop(1, -2), drop(2), drop(1, 2), drop(-1, 2)), nil, api.ErrStep}, {c, with(drop()), []int{1}, api.ErrStep}, {c, []api.Line{learnt(1)}, nil, api.ErrStep},
		{formula(1, []int{}), []api.Line{given()}, nil, api.OK}, {formula(1, []int{}), []api.Line{given(), drop()}, nil, api.ErrStep}, {formula(1, []int{}), []api.Line{given(), given(), drop()}, nil, api.OK}, {formula(1, []int{}), []api.Line{given(), learnt(1), drop(), drop(1)}, nil, api.ErrStep}, {formula(1, []int{}), []api.Line{given(), learnt(1), drop()}, []int{-1}, api.OK}, {formula(1, []int{1}, []int{-1}), []api.Line{given(1), given(-1), drop(1)}, nil, api.ErrStep}, {formula(1, []int{1}, []int{-1}), []api.Line{given(1), given(-1), drop(1)}, []int{1}, api.OK},
		{formula(1, []int{2}), nil, nil, api.ErrArg}, {formula(-1), nil, nil, api.ErrArg}, {formula(1, make([][]int, 65537)...), []api.Line{{}}, nil, api.ErrBound}, {c, slices.Repeat(all[:1], 65537), nil, api.ErrBound}, {c, append(slices.Repeat(all[:1], 65536), api.Line{}), []int{0}, api.ErrBound}, {c, append(slices.Repeat(all[:1], 65532), all...), []int{1}, api.OK},
		{c, with(api.Line{}), nil, api.ErrArg}, {c, with(api.Line{Kind: 4}), nil, api.ErrArg}, {c, with(api.Line{Kind: -1, L: []int{1}}), nil, api.ErrArg}, {c, with(learnt(0)), nil, api.ErrArg}, {c, with(learnt(65537)), nil, api.ErrArg}, {c, with(learnt(-65537)), nil, api.ErrArg}, {c, with(given(far)), nil, api.ErrArg}, {c, with(drop(1, -far-1)), nil, api.ErrArg}, {c, append([]api.Line{given(1)}, api.Line{}), nil, api.ErrArg},
		{c, all, []int{0}, api.ErrArg}, {c, all, []int{3}, api.ErrArg}, {c, all, []int{-3}, api.ErrArg}, {c, all, []int{1, 1}, api.ErrArg}, {c, all, []int{1, -1}, api.ErrArg}, {c, all, []int{far}, api.ErrArg}, {c, all, []int{-far - 1}, api.ErrArg}, {c, with(given(1)), []int{3}, api.ErrArg}, {c, all, []int{2, -1}, api.OK},
		// A clause may rest on others that are dropped when it is asked for.
		{formula(3, []int{1}, []int{-1, 2}, []int{-2, 3}), []api.Line{given(1), given(-1, 2), given(-2, 3), drop(-1, 2)}, []int{-3}, api.ErrStep}, {formula(3, []int{1}, []int{-1, 2}, []int{-2, 3}), []api.Line{given(1), given(-1, 2), given(-2, 3), learnt(3), drop(-1, 2)}, []int{-3}, api.OK}, {formula(3, []int{1}, []int{-1, 2}, []int{-2, 3}), []api.Line{given(-1, 2), given(-2, 3), given(1), drop(1)}, []int{-3}, api.ErrStep}, {formula(3, []int{1}, []int{-1, 2}, []int{-2, 3}), []api.Line{given(-1, 2), given(-2, 3), given(1), drop(1), given(1)}, []int{-3}, api.OK},
	} {
		old := fmt.Sprint(x.c.N, len(x.p), x.core)
		if e := proof.Check(x.c, x.p, x.core); e != x.e || fmt.Sprint(x.c.N, len(x.p), x.core) != old {
			t.Errorf("%d: %d, want %d", i, e, x.e)
		}
	}
}

// followsByWords propagates by going over all clauses again and again.
func followsByWords(c [][]int, l []int) bool {
	truth := map[int]bool{}
	for _, x := range l {
		if slices.Contains(l, -x) {
			return true
		}
		truth[-x] = true
	}
	for again := true; again; {
		again = false
		for _, clause := range c {
			open, sat := []int{}, false
			for _, x := range clause {
				sat = sat || truth[x]
				if !truth[-x] && !slices.Contains(open, x) {
					open = append(open, x)
				}
			}
			if len(open) == 0 {
				return true
			}
			if !sat && len(open) == 1 {
				truth[open[0]], again = true, true
			}
		}
	}
	return false
}

func equal(a, b []int) bool { return cnf.Subsumes(a, b) && cnf.Subsumes(b, a) }

// checkByWords replays a well-formed proof. It returns the line that fails, or the number of lines, and whether the end holds.
func checkByWords(c api.Cnf, p []api.Line, core []int) (int, bool) {
	var active [][]int
	for i, line := range p {
		at := slices.IndexFunc(active, func(l []int) bool { return equal(l, line.L) })
		switch {
		case line.Kind == api.GivenP && slices.ContainsFunc(c.L, func(l []int) bool { return equal(l, line.L) }), line.Kind == api.LearntP && followsByWords(active, line.L):
			active = append(active, line.L)
		case line.Kind == api.DropP && at >= 0:
			active = slices.Delete(active, at, at+1)
		default:
			return i, false
		}
	}
	var l []int
	for _, x := range core {
		l = append(l, -x)
	}
	return len(p), followsByWords(active, l)
}

func clause(r *sample.Source, n int) (l []int) {
	for range r.Below(4) + r.Below(2) {
		l = append(l, (1+r.Below(n))*(1-2*r.Below(2)))
	}
	return l
}

func TestRandomClauses(t *testing.T) {
	r := sample.New(1)
	yes := 0
	for range 5000 {
		n := 1 + r.Below(6)
		var c [][]int
		for range r.Below(3 * n) {
			if l := clause(r, n); len(l) > 0 {
				c = append(c, l)
			}
		}
		l := clause(r, n)
		want := followsByWords(c, l)
		if proof.Follows(c, l) != want {
			t.Fatal(c, l, want)
		}
		if want {
			yes++
		}
	}
	if yes < 1000 || yes > 4500 {
		t.Error(yes)
	}
}

// Clauses of three literals, so many that propagation goes far.
func TestRandomTriples(t *testing.T) {
	r := sample.New(4)
	yes := 0
	for range 3000 {
		n := 8 + r.Below(8)
		var c [][]int
		for range 3*n + r.Below(n) {
			c = append(c, []int{(1 + r.Below(n)) * (1 - 2*r.Below(2)), (1 + r.Below(n)) * (1 - 2*r.Below(2)), (1 + r.Below(n)) * (1 - 2*r.Below(2))})
		}
		l := []int{1 + r.Below(n), -1 - r.Below(n)}
		want := followsByWords(c, l)
		if proof.Follows(c, l) != want {
			t.Fatal(c, l, want)
		}
		if want {
			yes++
		}
	}
	if yes < 500 || yes > 2500 {
		t.Error(yes)
	}
	if !proof.Follows([][]int{{1, 2, 3}, {-4, -2}, {2, -3}, {-1, 5}, {-1, -5}}, []int{-4}) {
		t.Error("a chain through a clause of three literals")
	}
}

func TestRandomProofs(t *testing.T) {
	r := sample.New(2)
	accepted, refused, dropped := 0, 0, 0
	for range 6000 {
		c := api.Cnf{N: 1 + r.Below(5)}
		for range 2 + r.Below(4*c.N) {
			if l := clause(r, c.N); len(l) > 0 || r.Chance(10) {
				c.L = append(c.L, l)
			}
		}
		var p []api.Line
		for _, l := range c.L {
			p = append(p, given(l...))
		}
		for range r.Below(12) {
			// Lines that fail are left out, most of the time.
			line := api.Line{Kind: api.GivenP + r.Below(3), L: clause(r, c.N)}
			if r.Chance(2) && len(p) > 0 {
				line.L = p[r.Below(len(p))].L
			}
			if at, _ := checkByWords(c, append(slices.Clone(p), line), nil); at > len(p) || r.Chance(40) {
				p = append(p, line)
				if line.Kind == api.DropP {
					dropped++
				}
			}
		}
		var core []int
		for v := 1; v <= c.N; v++ {
			if k := r.Below(5); k < 2 {
				core = append(core, v*(2*k-1))
			}
		}
		want := api.ErrStep
		if at, ok := checkByWords(c, p, core); at == len(p) && ok {
			want = api.OK
		}
		if e := proof.Check(c, p, core); e != want {
			t.Fatal(c, p, core, e, want)
		}
		if want != api.OK {
			refused++
			continue
		}
		accepted++
		if satisfiable(c, core) {
			t.Fatal("accepted, but there is a model", c, p, core)
		}
	}
	if accepted < 1000 || refused < 1000 || dropped < 1000 {
		t.Error(accepted, refused, dropped)
	}
}

// satisfiable reports whether c has a model in which the literals of core are true.
func satisfiable(c api.Cnf, core []int) bool {
	for bits := range 1 << c.N {
		a := make([]bool, c.N+1)
		for v := range c.N {
			a[v+1] = bits>>v&1 == 1
		}
		if cnf.Value(c, a) && !slices.ContainsFunc(core, func(x int) bool { return a[max(x, -x)] != (x > 0) }) {
			return true
		}
	}
	return false
}

func TestLongProofs(t *testing.T) {
	// A chain of implications, and as many clauses learnt and dropped as a proof may have lines for.
	n := 20000
	c := api.Cnf{N: n}
	var p []api.Line
	for i := n; i > 1; i-- {
		c.L = append(c.L, []int{-i + 1, i})
		p = append(p, given(-i+1, i))
	}
	for i := range 20000 {
		p = append(p, learnt(-n+1+i%100, n))
	}
	for i := range 20000 {
		p = append(p, drop(-n+1+i%100, n))
	}
	if e := proof.Check(c, p, []int{1, -n}); e != api.OK {
		t.Error(e)
	}
	// One clause is left for each of those that were learnt as often as they were dropped.
	if e := proof.Check(c, append(p, drop(n, -n+1)), []int{1, -n}); e != api.ErrStep {
		t.Error(e)
	}
}
