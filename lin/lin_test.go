package lin_test

import (
	"fmt"
	"slices"
	"testing"

	"chalkline/api"
	"chalkline/lin"
	"chalkline/sample"
)

const most = 1 << 40

// sums returns a constraint with the given coefficients and literals, in turn.
func sums(least int, l ...int) api.Lin {
	x := api.Lin{Least: least}
	for i := 0; i < len(l); i += 2 {
		x.C, x.L = append(x.C, l[i]), append(x.L, l[i+1])
	}
	return x
}

// wide returns a constraint of n terms.
func wide(n, c int) api.Lin {
	x := api.Lin{Least: 1}
	for i := range n {
		x.C, x.L = append(x.C, c), append(x.L, 1+i)
	}
	return x
}

func TestCheck(t *testing.T) {
	for i, x := range []struct {
		l api.Lin
		n int
		e api.Errno
	}{
		{api.Lin{}, 0, api.OK}, {api.Lin{}, 65536, api.OK}, {api.Lin{}, -1, api.ErrArg}, {api.Lin{}, 65537, api.ErrArg}, {api.Lin{}, 1<<63 - 1, api.ErrArg}, {api.Lin{}, -1 << 63, api.ErrArg},
		{sums(1, 1, 1), 1, api.OK}, {sums(1, 1, -1), 1, api.OK}, {sums(1, 1, 2), 1, api.ErrArg}, {sums(1, 1, -2), 1, api.ErrArg}, {sums(1, 1, 0), 1, api.ErrArg}, {sums(1, 1, 1), 0, api.ErrArg},
		{sums(1, 1, 65536), 65536, api.OK}, {sums(1, 1, -65536), 65536, api.OK}, {sums(1, 1, 65537), 65536, api.ErrArg}, {sums(1, 1, -1<<63), 65536, api.ErrArg}, {sums(1, 1, 1<<63-1), 65536, api.ErrArg},
		{sums(most, most, 1, -most, 1), 1, api.OK}, {sums(-most, 0, 1), 1, api.OK}, {sums(most + 1), 1, api.ErrArg}, {sums(-most - 1), 1, api.ErrArg}, {sums(0, most+1, 1), 1, api.ErrArg}, {sums(0, -most-1, 1), 1, api.ErrArg},
		{sums(-1 << 63), 1, api.ErrArg}, {sums(0, -1<<63, 1), 1, api.ErrArg},
		{api.Lin{C: []int{1}}, 1, api.ErrArg}, {api.Lin{L: []int{1}}, 1, api.ErrArg}, {api.Lin{C: []int{1, 1}, L: []int{1}}, 1, api.ErrArg},
		{wide(4096, 1), 65536, api.OK}, {wide(4097, 1), 65536, api.ErrBound}, {wide(4097, 1), 4096, api.ErrArg}, {wide(4097, most+1), 65536, api.ErrArg}, {wide(4096, 1), 4096, api.OK},
	} {
		if e := lin.Check(x.l, x.n); e != x.e {
			t.Errorf("%d: %d, want %d", i, e, x.e)
		}
	}
}

// bad are constraints that no function takes, with their errors.
func bad() map[*api.Lin]api.Errno {
	a, b, c := sums(0, 1, 65537), wide(4097, 1), api.Lin{C: []int{1}}
	return map[*api.Lin]api.Errno{&a: api.ErrArg, &b: api.ErrBound, &c: api.ErrArg}
}

func TestBadConstraints(t *testing.T) {
	ok := sums(1, 1, 1)
	for x, want := range bad() {
		if n := lin.Norm(*x); !lin.Same(n, api.Lin{}) {
			t.Error(n)
		}
		if lin.Value(*x, []bool{true, true, true}) {
			t.Error("holds")
		}
		if f, ok := lin.Force(*x, nil); ok || len(f) > 0 {
			t.Error(f)
		}
		if y, e := lin.Add(*x, ok); e != want || !lin.Same(y, api.Lin{}) {
			t.Error(y, e)
		}
		if y, e := lin.Add(ok, *x); e != want || !lin.Same(y, api.Lin{}) {
			t.Error(y, e)
		}
		for z, first := range bad() {
			if y, e := lin.Add(*z, *x); e != first || !lin.Same(y, api.Lin{}) {
				t.Error(y, e)
			}
		}
		for _, by := range []int{0, 1} {
			if y, e := lin.Cut(*x, by); e != want || !lin.Same(y, api.Lin{}) {
				t.Error(y, e)
			}
		}
	}
}

func TestNorm(t *testing.T) {
	for i, x := range []struct{ l, want api.Lin }{
		{sums(3, 2, 1, 3, -2, 1, 2), sums(2, 2, 1, 2, -2)},
		{sums(0), sums(0)}, {sums(-5), sums(0)}, {sums(1), sums(1)}, {sums(7), sums(1)}, {sums(most), sums(1)},
		{sums(1, 1, 1), sums(1, 1, 1)}, {sums(1, 5, 1), sums(1, 1, 1)}, {sums(2, 1, 1), sums(1)}, {sums(0, 1, 1), sums(0)}, {sums(1, 0, 1), sums(1)}, {sums(2, 3, 1, 1, 2), sums(2, 2, 1, 1, 2)},
		{sums(1, 1, 1, 1, -1), sums(0)}, {sums(2, 1, 1, 1, -1), sums(1)}, {sums(2, 1, 1, 2, -1), sums(1, 1, -1)}, {sums(0, -1, 1), sums(1, 1, -1)}, {sums(-1, -1, 1), sums(0)}, {sums(-1, -1, 1, -1, 2), sums(1, 1, -1, 1, -2)},
		{sums(2, 1, 3, 1, 1, 1, 2), sums(2, 1, 1, 1, 2, 1, 3)}, {sums(3, 1, 2, 1, 2, 2, 1), sums(3, 2, 1, 2, 2)}, {sums(3, 1, -2, 1, 2, 2, 1), sums(2, 2, 1)}, {sums(4, 3, 1, -1, -1, 2, 2), sums(5, 4, 1, 2, 2)},
		{sums(5, 3, 1, 2, 2, 2, 3), sums(5, 3, 1, 2, 2, 2, 3)}, {sums(8, 3, 1, 2, 2, 2, 3), sums(1)}, {sums(7, 3, 1, 2, 2, 2, 3), sums(7, 3, 1, 2, 2, 2, 3)}, {sums(-2, -3, 1, -4, -2), sums(5, 3, -1, 4, 2)},
		{sums(most, most, 1, most, 1), sums(most, most, 1)}, {sums(most, -most, 1, -most, -1, most, 2, most, 2), sums(2*most, 2*most, 2)},
		{sums(1, 1, 65536, 1, -65535), sums(1, 1, -65535, 1, 65536)},
	} {
		old := fmt.Sprint(x.l)
		if n := lin.Norm(x.l); !lin.Same(n, x.want) {
			t.Errorf("%d: %v, want %v", i, n, x.want)
		}
		if fmt.Sprint(x.l) != old {
			t.Error("an argument was changed")
		}
	}
}

func TestNormOfTheGreatestNumbers(t *testing.T) {
	// 4096 negative coefficients raise the bound to 2 to the power of 52 and more.
	x := wide(4096, -most)
	x.Least = -most
	n := lin.Norm(x)
	if len(n.L) != 4096 || n.Least != 4095*most || n.C[0] != most || n.L[4095] != -4096 {
		t.Error(len(n.L), n.Least)
	}
	x.Least = most
	if n := lin.Norm(x); !lin.Same(n, sums(1)) {
		t.Error(n)
	}
	x.Least = 0
	for i := range x.L {
		x.L[i], x.C[i] = 1, most
	}
	x.Least = most
	if n := lin.Norm(x); !lin.Same(n, sums(most, most, 1)) {
		t.Error(n)
	}
}

func TestValue(t *testing.T) {
	a := []bool{true, true, false}
	for i, x := range []struct {
		l    api.Lin
		want bool
	}{
		{sums(0), true}, {sums(1), false}, {sums(-1), true}, {sums(1, 1, 1), true}, {sums(1, 1, -1), false}, {sums(1, 1, 2), false}, {sums(1, 1, -2), true}, {sums(1, 1, 3), false}, {sums(1, 1, -3), true}, {sums(1, 1, -65536), true},
		{sums(3, 2, 1, 1, -2), true}, {sums(4, 2, 1, 1, -2), false}, {sums(2, 1, 1, 1, 1), true}, {sums(3, 1, 1, 1, 1), false}, {sums(1, 2, 1, -1, -2), true}, {sums(2, 2, 1, -1, -2), false}, {sums(most, most, 1, most, 1), true}, {sums(0, -1, 1), false},
	} {
		if v := lin.Value(x.l, a); v != x.want {
			t.Errorf("%d: %v", i, v)
		}
	}
	if lin.Value(sums(1, 1, 1), nil) || !lin.Value(sums(1, 1, -1), nil) {
		t.Error("variables beyond the assignment")
	}
}

func TestForce(t *testing.T) {
	three := sums(5, 3, 1, 2, 2, 2, 3)
	for i, x := range []struct {
		l    api.Lin
		lits []int
		want []int
		ok   bool
	}{
		{sums(1, 1, 65536), nil, []int{65536}, true}, {three, nil, []int{1}, true}, {three, []int{-2}, []int{1, 3}, true}, {three, []int{-1}, nil, false}, {three, []int{1}, nil, true}, {three, []int{2}, []int{1}, true}, {three, []int{1, 2}, nil, true}, {three, []int{1, -2}, []int{3}, true},
		{three, []int{-2, -3}, nil, false}, {three, []int{-2, 1}, []int{3}, true}, {three, []int{9, -8}, []int{1}, true}, {three, []int{1, 2, 3}, nil, true}, {three, []int{1, -2, 3}, nil, true}, {sums(0), nil, nil, true}, {sums(1), nil, nil, false}, {sums(1), []int{1}, nil, false},
		{sums(2, 1, 2, 1, 1), nil, []int{1, 2}, true}, {sums(2, 1, 2, 1, -1), nil, []int{-1, 2}, true}, {sums(1, 1, 2, 1, 1), []int{-2}, []int{1}, true}, {sums(1, 1, 2, 1, 1), nil, nil, true}, {sums(1, 2, 1, 1, -1), nil, nil, true}, {sums(2, 2, 1, 1, -1), nil, []int{1}, true},
		{three, []int{0}, nil, false}, {three, []int{65537}, nil, false}, {three, []int{-65537}, nil, false}, {three, []int{-1 << 63}, nil, false}, {three, []int{65536, -65535}, []int{1}, true}, {three, []int{7, 7}, nil, false}, {three, []int{7, -7}, nil, false}, {three, []int{-7, 7}, nil, false}, {sums(0), []int{0}, nil, false},
	} {
		if f, ok := lin.Force(x.l, x.lits); ok != x.ok || !slices.Equal(f, x.want) {
			t.Errorf("%d: %v, %v; want %v, %v", i, f, ok, x.want, x.ok)
		}
	}
}

func TestAddAndCut(t *testing.T) {
	a, b := sums(3, 1, 2, -4, 1), sums(-1, 7, -2)
	if s, e := lin.Add(a, b); e != api.OK || !lin.Same(s, sums(2, 1, 2, -4, 1, 7, -2)) {
		t.Error(s, e)
	}
	for _, x := range []struct {
		a, b api.Lin
		e    api.Errno
	}{
		{wide(4095, 1), wide(1, 1), api.OK}, {wide(4096, 1), wide(1, 1), api.ErrBound}, {wide(2048, 1), wide(2049, 1), api.ErrBound}, {sums(most), sums(0), api.OK}, {sums(most), sums(1), api.ErrBound},
		{sums(0, 1, 65536), sums(0, 1, -65536), api.OK}, {sums(-most), sums(-1), api.ErrBound}, {sums(-most), sums(0), api.OK}, {sums(most), sums(-most), api.OK}, {sums(most), sums(most), api.ErrBound}, {sums(0), sums(0), api.OK},
	} {
		if s, e := lin.Add(x.a, x.b); e != x.e || e != api.OK && !lin.Same(s, api.Lin{}) {
			t.Error(s.Least, len(s.L), e, x.e)
		}
	}
	for i, x := range []struct {
		l    api.Lin
		by   int
		want api.Lin
		e    api.Errno
	}{
		{sums(1, 1, 65536), 1, sums(1, 1, 65536), api.OK}, {sums(5, 3, 1, 2, 2, 2, 3), 2, sums(3, 2, 1, 1, 2, 1, 3), api.OK}, {sums(5, 3, 1, 2, 2, 2, 3), 1, sums(5, 3, 1, 2, 2, 2, 3), api.OK}, {sums(5, 3, 1, 2, 2, 2, 3), 3, sums(2, 1, 1, 1, 2, 1, 3), api.OK},
		{sums(4, 9, 1, 4, 2), 4, sums(1, 1, 1, 1, 2), api.OK}, {sums(5, 9, 1, 4, 2), 4, sums(2, 2, 1, 1, 2), api.OK}, {sums(5, 3, 1, 2, 2, 2, 3), most, sums(1, 1, 1, 1, 2, 1, 3), api.OK}, {sums(9, 1, 1), 5, sums(1), api.OK}, {sums(-9, 1, 1), 5, sums(0), api.OK},
		{sums(1, 1, 1), 0, api.Lin{}, api.ErrArg}, {sums(1, 1, 1), -1, api.Lin{}, api.ErrArg}, {sums(1, 1, 1), most + 1, api.Lin{}, api.ErrArg}, {sums(1, 1, 1), 1<<63 - 1, api.Lin{}, api.ErrArg}, {sums(1, 1, 1), -1 << 63, api.Lin{}, api.ErrArg},
	} {
		if c, e := lin.Cut(x.l, x.by); e != x.e || !lin.Same(c, x.want) {
			t.Errorf("%d: %v, %d", i, c, e)
		}
	}
}

func TestSame(t *testing.T) {
	l := []api.Lin{{}, sums(1), sums(0, 1, 1), sums(0, 1, 2), sums(0, 2, 1), sums(0, 1, 1, 1, 2), sums(0, 1, 2, 1, 1), {C: []int{1}}, {L: []int{1}}}
	for i, a := range l {
		for k, b := range l {
			if lin.Same(a, b) != (i == k) {
				t.Error(i, k)
			}
		}
	}
	if !lin.Same(api.Lin{}, api.Lin{C: []int{}, L: []int{}}) {
		t.Error("empty lists")
	}
}

// random makes a well-formed constraint over the variables 1 to n.
func random(r *sample.Source, n int) api.Lin {
	x := api.Lin{Least: r.Below(15) - 5}
	for range r.Below(7) {
		lit := 1 + r.Below(n)
		if r.Chance(2) {
			lit = -lit
		}
		x.C, x.L = append(x.C, r.Below(9)-3), append(x.L, lit)
	}
	return x
}

// assignments returns all assignments of the variables 1 to n.
func assignments(n int) (l [][]bool) {
	for bits := range 1 << n {
		a := make([]bool, n+1)
		for v := range n {
			a[v+1] = bits>>v&1 == 1
		}
		l = append(l, a)
	}
	return l
}

// sum is the sum of the coefficients of the true literals.
func sum(x api.Lin, a []bool) int {
	n := 0
	for i, lit := range x.L {
		if lit > 0 && a[lit] || lit < 0 && !a[-lit] {
			n += x.C[i]
		}
	}
	return n
}

func TestRandomConstraints(t *testing.T) {
	r := sample.New(1)
	kinds := map[string]int{}
	for range 3000 {
		n := 1 + r.Below(5)
		x, y := random(r, n), random(r, n)
		norm := lin.Norm(x)
		both, e := lin.Add(x, y)
		cut, e2 := lin.Cut(x, 1+r.Below(5))
		if e != api.OK || e2 != api.OK {
			t.Fatal(e, e2)
		}
		for _, a := range assignments(n) {
			ok := sum(x, a) >= x.Least
			if lin.Value(x, a) != ok || lin.Value(norm, a) != ok {
				t.Fatal(x, norm, a)
			}
			if ok && sum(y, a) >= y.Least && !lin.Value(both, a) || ok && !lin.Value(cut, a) {
				t.Fatal(x, y, both, cut, a)
			}
		}
		var lits []int
		for v := 1; v <= n; v++ {
			if k := r.Below(4); k < 2 {
				lits = append(lits, v*(2*k-1))
			}
		}
		force(t, kinds, x, lits, n)
	}
	if kinds["no"] < 100 || kinds["none"] < 100 || kinds["some"] < 100 {
		t.Error(kinds)
	}
}

// force holds Force against all assignments.
func force(t *testing.T, kinds map[string]int, x api.Lin, lits []int, n int) {
	counts, models := map[int]int{}, 0
	for _, a := range assignments(n) {
		if sum(x, a) < x.Least || slices.ContainsFunc(lits, func(lit int) bool { return a[max(lit, -lit)] != (lit > 0) }) {
			continue
		}
		models++
		for v := 1; v <= n; v++ {
			if a[v] {
				counts[v]++
			} else {
				counts[-v]++
			}
		}
	}
	var want []int
	for v := 1; v <= n; v++ {
		for _, lit := range []int{v, -v} {
			if counts[lit] == models && !slices.Contains(lits, v) && !slices.Contains(lits, -v) {
				want = append(want, lit)
			}
		}
	}
	got, ok := lin.Force(x, lits)
	if models == 0 {
		want = nil
	}
	if ok != (models > 0) || !slices.Equal(got, want) {
		t.Fatal(x, lits, got, ok, want, models)
	}
	kinds[map[bool]map[bool]string{true: {true: "some", false: "none"}, false: {true: "no", false: "no"}}[ok][len(got) > 0]]++
}

func TestNoSharedMemory(t *testing.T) {
	x := sums(3, 2, 1, 2, 2)
	n, s := lin.Norm(x), api.Lin{}
	s, _ = lin.Add(x, api.Lin{})
	c, _ := lin.Cut(x, 1)
	f, _ := lin.Force(sums(4, 2, 1, 2, 2), nil)
	x.C[0], x.L[0] = 9, 9
	if !lin.Same(n, sums(3, 2, 1, 2, 2)) || !lin.Same(s, n) || !lin.Same(c, n) || !slices.Equal(f, []int{1, 2}) {
		t.Error("a result shares memory with an argument")
	}
}
