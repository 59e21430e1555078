package hit_test

import (
	"fmt"
	"reflect"
	"slices"
	"testing"

	"chalkline/api"
	"chalkline/cnf"
	"chalkline/hit"
	"chalkline/sample"
)

const (
	far  = 1<<63 - 1
	most = 1 << 40
)

// upTo returns the numbers below n.
func upTo(n int) (l []int) {
	for i := range n {
		l = append(l, i)
	}
	return l
}

func TestHits(t *testing.T) {
	for i, x := range []struct {
		l    [][]int
		want string
	}{
		{[][]int{{1, 2}, {2, 3}}, "[[1 3] [2]]"}, {nil, "[[]]"}, {[][]int{{}}, "[]"}, {[][]int{{1}, {}}, "[]"}, {[][]int{{0, most}}, "[[0] [1099511627776]]"}, {[][]int{{1}, {1}}, "[[1]]"}, {[][]int{{1}, {2}, {1, 2}}, "[[1 2]]"}, {[][]int{{10}, {9, 10}, {2, 10}}, "[[10]]"}, {[][]int{{1, 2}, {1, 3}, {2, 3}}, "[[1 2] [1 3] [2 3]]"}, {[][]int{{1, 2}, {3, 4}}, "[[1 3] [1 4] [2 3] [2 4]]"}, {[][]int{{1, 10, 100}, {2, 10}}, "[[1 2] [2 100] [10]]"},
		{slices.Repeat([][]int{{5}}, 12), "[[5]]"},
	} {
		old := fmt.Sprint(x.l)
		if h, e := hit.Hits(x.l); fmt.Sprint(h) != x.want || e != api.OK || fmt.Sprint(x.l) != old {
			t.Errorf("%d: %v, %d", i, h, e)
		}
	}
	if h, e := hit.Hits([][]int{upTo(12)}); len(h) != 12 || e != api.OK {
		t.Error(h, e)
	}
}

func TestHitsErrors(t *testing.T) {
	for i, x := range []struct {
		l [][]int
		e api.Errno
	}{
		{[][]int{{1, 1}}, api.ErrArg}, {[][]int{{2, 1}}, api.ErrArg}, {[][]int{{-1}}, api.ErrArg}, {[][]int{{most + 1}}, api.ErrArg}, {[][]int{{far}}, api.ErrArg}, {[][]int{{-far - 1, 0}}, api.ErrArg}, {[][]int{{1}, {3, 2}}, api.ErrArg}, {slices.Repeat([][]int{{1}}, 13), api.ErrBound}, {[][]int{upTo(13)}, api.ErrBound}, {[][]int{upTo(12), {12}}, api.ErrBound}, {[][]int{upTo(12), {11}}, api.OK}, {append(slices.Repeat([][]int{{1}}, 13), []int{-1}), api.ErrArg}, {[][]int{upTo(13), {1, 1}}, api.ErrArg}, {slices.Repeat([][]int{nil}, 13), api.ErrBound},
	} {
		if h, e := hit.Hits(x.l); e != x.e || e != api.OK && len(h) > 0 {
			t.Errorf("%d: %v, %d", i, h, e)
		}
	}
}

// minimalSets returns the minimal index sets below n with a property that holds for all larger sets as well, in order.
func minimalSets(n int, has func(set []int) bool) (l [][]int) {
	for bits := range 1 << n {
		var set []int
		for i := range n {
			if bits>>i&1 == 1 {
				set = append(set, i)
			}
		}
		ok := has(set)
		for i := range set {
			ok = ok && !has(slices.Delete(slices.Clone(set), i, i+1))
		}
		if ok {
			l = append(l, set)
		}
	}
	slices.SortFunc(l, slices.Compare)
	return l
}

func TestHitsOfRandomFamilies(t *testing.T) {
	r := sample.New(1)
	for range 1000 {
		n := 1 + r.Below(7)
		var l [][]int
		for range r.Below(7) {
			if set := r.Some(n); len(set) > 0 || r.Chance(9) {
				l = append(l, set)
			}
		}
		want := minimalSets(n, func(set []int) bool {
			return !slices.ContainsFunc(l, func(x []int) bool {
				return !slices.ContainsFunc(x, func(i int) bool { return slices.Contains(set, i) })
			})
		})
		h, e := hit.Hits(l)
		if fmt.Sprint(h) != fmt.Sprint(want) || e != api.OK {
			t.Fatal(l, h, want, e)
		}
		// Hitting twice gives back the minimal sets of the family.
		if back, e := hit.Hits(h); e == api.OK {
			for _, set := range back {
				if !slices.ContainsFunc(l, func(x []int) bool { return slices.Equal(x, set) }) {
					t.Fatal(l, h, back)
				}
			}
		}
	}
}

// consistent tells whether c has a model in which the assumptions with the indices are true.
func consistent(models [][]bool, assume, set []int) bool {
	return slices.ContainsFunc(models, func(a []bool) bool {
		return !slices.ContainsFunc(set, func(i int) bool { return a[max(assume[i], -assume[i])] != (assume[i] > 0) })
	})
}

func allModels(c api.Cnf) (l [][]bool) {
	for bits := range 1 << c.N {
		a := make([]bool, c.N+1)
		for v := range c.N {
			a[v+1] = bits>>v&1 == 1
		}
		if cnf.Value(c, a) {
			l = append(l, a)
		}
	}
	return l
}

// expected enumerates cores and correction sets by trying everything.
func expected(c api.Cnf, assume []int) (cores, fixes [][]int) {
	models := allModels(c)
	cores = minimalSets(len(assume), func(set []int) bool { return !consistent(models, assume, set) })
	fixes = minimalSets(len(assume), func(set []int) bool {
		var rest []int
		for i := range assume {
			if !slices.Contains(set, i) {
				rest = append(rest, i)
			}
		}
		return consistent(models, assume, rest)
	})
	return cores, fixes
}

func TestAll(t *testing.T) {
	for i, x := range []struct {
		c            api.Cnf
		assume       []int
		cores, fixes string
	}{
		{api.Cnf{N: 3, L: [][]int{{-1, -2}}}, []int{1, 2, 3}, "[[0 1]]", "[[0] [1]]"}, {api.Cnf{N: 3}, []int{1, -2}, "[]", "[[]]"}, {api.Cnf{}, nil, "[]", "[[]]"}, {api.Cnf{L: [][]int{{}}}, nil, "[[]]", "[]"}, {api.Cnf{N: 2, L: [][]int{{1}, {-1}}}, []int{2, 1}, "[[]]", "[]"}, {api.Cnf{N: 2, L: [][]int{{-1}, {-2}}}, []int{2, 1}, "[[0] [1]]", "[[0 1]]"},
		{api.Cnf{N: 4, L: [][]int{{-1, -2}, {-2, -3}, {-3, -4}}}, []int{4, 3, 2, 1}, "[[0 1] [1 2] [2 3]]", "[[0 2] [1 2] [1 3]]"},
	} {
		y, e := hit.All(x.c, x.assume, 1<<30)
		if e != api.OK || y.Kind != api.YesA || fmt.Sprint(y.Cores) != x.cores || fmt.Sprint(y.Fixes) != x.fixes {
			t.Errorf("%d: %v, %d", i, y, e)
		}
	}
}

func TestAllErrors(t *testing.T) {
	ok := api.Cnf{N: 3, L: [][]int{{1, 2}}}
	for i, x := range []struct {
		c      api.Cnf
		assume []int
		budget int
		e      api.Errno
	}{
		{ok, []int{1, -2, 3}, 0, api.OK}, {ok, nil, most, api.OK}, {ok, nil, -1, api.ErrArg}, {ok, nil, most + 1, api.ErrArg}, {ok, nil, far, api.ErrArg}, {ok, nil, -far - 1, api.ErrArg}, {ok, []int{0}, 5, api.ErrArg}, {ok, []int{4}, 5, api.ErrArg}, {ok, []int{-4}, 5, api.ErrArg}, {ok, []int{far}, 5, api.ErrArg}, {ok, []int{-far - 1}, 5, api.ErrArg}, {ok, []int{1, 1}, 5, api.ErrArg}, {ok, []int{1, 2, -1}, 5, api.ErrArg}, {api.Cnf{N: 1, L: [][]int{{2}}}, nil, 5, api.ErrArg}, {api.Cnf{N: -1}, nil, 5, api.ErrArg}, {api.Cnf{N: 1, L: make([][]int, 65537)}, []int{0}, -1, api.ErrBound},
	} {
		if y, e := hit.All(x.c, x.assume, x.budget); e != x.e || e != api.OK && !reflect.DeepEqual(y, api.Why{}) {
			t.Errorf("%d: %v, %d, want %d", i, y, e, x.e)
		}
	}
}

// partOf reports whether l is sorted, without repetitions, and all of it in m.
func partOf(l, m [][]int) bool {
	for i, x := range l {
		if i > 0 && slices.Compare(l[i-1], x) >= 0 || !slices.ContainsFunc(m, func(y []int) bool { return slices.Equal(x, y) }) {
			return false
		}
	}
	return true
}

func TestAllOfRandomFormulas(t *testing.T) {
	r := sample.New(2)
	kinds, several := map[int]int{}, 0
	for range 1500 {
		c := api.Cnf{N: 1 + r.Below(7)}
		for range r.Below(3*c.N + 1) {
			var l []int
			for range 1 + r.Below(4) {
				l = append(l, (1+r.Below(c.N))*(1-2*r.Below(2)))
			}
			c.L = append(c.L, l)
		}
		var assume []int
		for v := c.N; v > 0; v-- {
			if k := r.Below(5); k < 4 {
				assume = append(assume, v*(k%2*2-1))
			}
		}
		budget := []int{0, 1, 2, 5, 10, 1 << 30, 1 << 30, 1 << 30}[r.Below(8)]
		old := fmt.Sprint(c, assume)
		y, e := hit.All(c, assume, budget)
		cores, fixes := expected(c, assume)
		if kinds[y.Kind]++; e != api.OK || fmt.Sprint(c, assume) != old {
			t.Fatal(c, assume, e)
		}
		if len(cores) > 1 && len(fixes) > 1 {
			several++
		}
		switch y.Kind {
		case api.YesA:
			if fmt.Sprint(y.Cores, y.Fixes) != fmt.Sprint(cores, fixes) {
				t.Fatal(c, assume, y, cores, fixes)
			}
			duality(t, y)
		case api.OutA:
			if budget == 1<<30 || !partOf(y.Cores, cores) || !partOf(y.Fixes, fixes) {
				t.Fatal(c, assume, budget, y, cores, fixes)
			}
		default:
			t.Fatal(y)
		}
		if again, _ := hit.All(c, assume, budget); !reflect.DeepEqual(y, again) {
			t.Fatal("equal calls differ")
		}
	}
	if kinds[api.YesA] < 500 || kinds[api.OutA] < 20 || several < 30 {
		t.Error(kinds, several)
	}
}

// duality checks that the cores and the correction sets are each other's minimal hitting sets.
func duality(t *testing.T, y api.Why) {
	a, e1 := hit.Hits(y.Cores)
	b, e2 := hit.Hits(y.Fixes)
	if e1 == api.OK && fmt.Sprint(a) != fmt.Sprint(y.Fixes) || e2 == api.OK && fmt.Sprint(b) != fmt.Sprint(y.Cores) {
		t.Fatal(y, a, b)
	}
}

// Ten pairs that exclude each other have ten cores, and more correction sets than can be counted on fingers.
func TestManySets(t *testing.T) {
	c := api.Cnf{N: 120}
	var assume []int
	for v := 1; v <= 120; v++ {
		assume = append(assume, v)
	}
	for p := range 8 {
		c.L = append(c.L, []int{-1 - 10*p, -5 - 10*p})
	}
	y, e := hit.All(c, assume, 1<<40)
	if e != api.OK || y.Kind != api.YesA || len(y.Cores) != 8 || len(y.Fixes) != 256 || !slices.Equal(y.Cores[1], []int{10, 14}) || !slices.Equal(y.Fixes[255], []int{4, 14, 24, 34, 44, 54, 64, 74}) {
		t.Error(y.Kind, len(y.Cores), len(y.Fixes), e)
	}
	duality(t, y)
}

func TestSetsShareNothing(t *testing.T) {
	h, _ := hit.Hits([][]int{{1, 2}, {3, 4}})
	y, _ := hit.All(api.Cnf{N: 4, L: [][]int{{-1, -2}, {-3, -4}}}, []int{1, 2, 3, 4}, 1<<30)
	rest := fmt.Sprint(h[1:], y.Cores[1:], y.Fixes[1:])
	for _, l := range [][]int{h[0], y.Cores[0], y.Fixes[0]} {
		l[0] = 9
		_ = append(l, 9, 9)
	}
	if fmt.Sprint(h[1:], y.Cores[1:], y.Fixes[1:]) != rest {
		t.Error("sets share memory")
	}
}
