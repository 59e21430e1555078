package encode_test

import (
	"fmt"
	"slices"
	"testing"

	"chalkline/adder"
	"chalkline/api"
	"chalkline/cnf"
	"chalkline/count"
	"chalkline/encode"
	"chalkline/lin"
	"chalkline/sample"
	"chalkline/total"
)

const (
	far  = 1<<63 - 1
	most = 1 << 40
)

// same returns a constraint of n literals 1, 2 and so on with one coefficient.
func same(n, c, least int) api.Lin {
	x := api.Lin{Least: least}
	for i := range n {
		x.C, x.L = append(x.C, c), append(x.L, i+1)
	}
	return x
}

func with(least int, l ...int) api.Lin {
	x := api.Lin{Least: least}
	for i := 0; i < len(l); i += 2 {
		x.C, x.L = append(x.C, l[i]), append(x.L, l[i+1])
	}
	return x
}

func TestHow(t *testing.T) {
	for i, x := range []struct {
		l   api.Lin
		how int
		e   api.Errno
	}{
		{with(1, 1, 1, 1, 2), 1, api.OK}, {with(2, 1, 1, 1, 2), 2, api.OK}, {with(5, 2, 1, 3, 2, 4, 3), 4, api.OK}, {api.Lin{}, 5, api.OK}, {with(-3, 1, 1), 5, api.OK}, {with(1), 6, api.OK}, {with(9, 1, 1), 6, api.OK}, {with(0, 1, 1, 1, -1), 5, api.OK},
		{with(1, 7, 1, 9, 2), 1, api.OK}, {with(7, 7, 1, 9, 2), 1, api.OK}, {with(8, 7, 1, 9, 2), 4, api.OK}, {with(2, 2, 1), 1, api.OK}, {with(1, -1, 1, 2, 2), 4, api.OK}, {with(1, -1, 1, 1, 2), 2, api.OK}, {with(0, -1, 1), 1, api.OK}, {same(1, 5, 3), 1, api.OK}, {same(3, 2, 3), 2, api.OK}, {same(3, 2, 4), 2, api.OK}, {same(3, 2, 6), 2, api.OK}, {same(3, 2, 7), 6, api.OK},
		{same(10, 1, 2), 2, api.OK}, {same(10, 1, 10), 2, api.OK}, {same(11, 1, 2), 3, api.OK}, {same(11, 1, 1), 1, api.OK}, {same(20, 1, 20), 3, api.OK}, {same(21, 1, 19), 3, api.OK}, {same(21, 1, 20), 4, api.OK}, {same(200, 1, 2), 3, api.OK}, {same(201, 1, 2), 4, api.OK}, {same(400, 1, 1), 1, api.OK}, {same(100, 1, 4), 3, api.OK}, {same(100, 1, 5), 4, api.OK},
		{same(100, 3, 10), 3, api.OK}, {same(100, 3, 12), 3, api.OK}, {same(100, 3, 13), 4, api.OK}, {same(4096, 1, 1), 1, api.OK}, {same(4097, 1, 1), 0, api.ErrBound}, {with(1, 1, 65537), 0, api.ErrArg}, {with(1, 1, 65536), 1, api.OK}, {with(most+1, 1, 1), 0, api.ErrArg}, {api.Lin{C: []int{1}}, 0, api.ErrArg},
	} {
		if how, e := encode.How(x.l); how != x.how || e != x.e {
			t.Errorf("%d: %d, %d; want %d, %d", i, how, e, x.how, x.e)
		}
	}
}

func TestOne(t *testing.T) {
	for i, x := range []struct {
		l           api.Lin
		guard, next int
		c           string
		after       int
	}{
		{with(1, 1, 1, 1, 2), 9, 10, "[[-9 1 2]]", 10}, {with(1, 1, 1, 1, 2), -9, 10, "[[9 1 2]]", 10}, {with(1, 1, 1, 1, 2), 0, 10, "[[1 2]]", 10}, {with(1, 1, 2, 1, -1), 0, 3, "[[-1 2]]", 3}, {with(0, 1, 1), 1, 3, "[]", 3}, {with(2, 1, 1), 0, 3, "[[]]", 3}, {with(2, 1, 1), -2, 3, "[[2]]", 3},
		{with(2, 1, 1, 1, 2), 0, 3, "[[1 2 -3] [-2 3] [1 -4] [-1 3] [2 -4] [-1 -2 4] [4]]", 5}, {with(2, 1, 1, 1, 2), 1, 3, "[[1 2 -3] [-2 3] [1 -4] [-1 3] [2 -4] [-1 -2 4] [-1 4]]", 5},
		{with(3, 2, 1, 1, 2), 0, 3, "[[2] [1]]", 3}, {with(3, 2, 1, 1, 2), 2, 3, "[[-2 2] [-2 1]]", 3}, {api.Lin{}, 0, 1, "[]", 1}, {api.Lin{}, 0, 65537, "[]", 65537}, {with(1), 65536, 65537, "[[-65536]]", 65537}, {with(1, 1, 65536), 0, 65537, "[[65536]]", 65537},
	} {
		if c, after, e := encode.One(x.l, x.guard, x.next); fmt.Sprint(c) != x.c || after != x.after || e != api.OK {
			t.Errorf("%d: %v, %d, %d", i, c, after, e)
		}
	}
}

// parts returns the clauses of one of the encodings, split into those without and with the guard.
func parts(x api.Lin, how, next int) (free, bound [][]int, after int, e api.Errno) {
	k := 0
	if len(x.C) > 0 {
		k = (x.Least + x.C[0] - 1) / x.C[0]
	}
	switch how {
	case 1:
		return nil, [][]int{x.L}, next, api.OK
	case 2:
		outs, c, after, e := total.Total(x.L, k, next)
		if e != api.OK {
			return nil, nil, 0, e
		}
		return c, [][]int{{outs[k-1]}}, after, api.OK
	case 3:
		c, after, e := count.Least(x.L, k, next)
		return nil, c, after, e
	case 4:
		bits, c, after, e := adder.Sum(x.C, x.L, next)
		if e != api.OK {
			return nil, nil, 0, e
		}
		least, e := adder.Least(bits, x.Least)
		return c, least, after, e
	case 5:
		return nil, nil, next, api.OK
	}
	return nil, [][]int{{}}, next, api.OK
}

func TestOneIsMadeOfTheEncodings(t *testing.T) {
	r := sample.New(1)
	seen := map[int]int{}
	l := []api.Lin{same(10, 1, 5), same(11, 1, 2), same(20, 2, 39), same(21, 1, 20), same(201, 1, 2), same(100, 3, 11), same(100, 3, 13)}
	for range 300 {
		l = append(l, random(r, 6))
	}
	for _, x := range l {
		how, _ := encode.How(x)
		seen[how]++
		for _, guard := range []int{0, 205, -3} {
			free, bound, z, e := parts(lin.Norm(x), how, 210)
			want := slices.Clone(free)
			for _, y := range bound {
				if guard != 0 {
					y = append([]int{-guard}, y...)
				}
				want = append(want, y)
			}
			c, after, e2 := encode.One(x, guard, 210)
			if e != api.OK || e2 != api.OK || !slices.EqualFunc(c, want, slices.Equal) || after != z {
				t.Fatal(x, guard, c, want, after, e, e2)
			}
		}
	}
	for how := 1; how <= 6; how++ {
		if seen[how] < 3 {
			t.Error(seen)
		}
	}
}

func TestOneErrors(t *testing.T) {
	for i, x := range []struct {
		l           api.Lin
		guard, next int
		e           api.Errno
	}{
		{api.Lin{}, 0, 0, api.ErrArg}, {api.Lin{}, 0, -1, api.ErrArg}, {api.Lin{}, 0, 65538, api.ErrArg}, {api.Lin{}, 9, far, api.ErrArg}, {api.Lin{}, 9, -far - 1, api.ErrArg}, {with(1, 1, 1), 0, 1, api.ErrArg}, {with(1, 1, 3), 0, 3, api.ErrArg}, {with(1, 1, -3), 9, 3, api.ErrArg}, {same(4097, 1, 1), 9, 4098, api.ErrBound}, {same(4097, 1, 1), 9, 4097, api.ErrArg}, {same(4096, 1, 1), 0, 4097, api.OK},
		{with(1, 1, 1), 3, 3, api.ErrLit}, {with(1, 1, 1), -3, 3, api.ErrLit}, {with(1, 1, 1), 2, 3, api.OK}, {with(1, 1, 1), -2, 3, api.OK}, {with(1, 1, 1), far, 3, api.ErrLit}, {with(1, 1, 1), -far - 1, 3, api.ErrLit}, {api.Lin{}, 1, 1, api.ErrLit}, {api.Lin{}, -1, 1, api.ErrLit}, {api.Lin{}, 0, 1, api.OK},
		{same(2, 1, 2), 0, 65535, api.OK}, {same(2, 1, 2), 0, 65536, api.ErrBound}, {same(11, 1, 2), 0, 65537 - 21, api.OK}, {same(11, 1, 2), 0, 65538 - 21, api.ErrBound}, {with(4, 2, 1, 3, 2, 3, 3), 0, 65537, api.ErrBound}, {with(4, 2, 1, 3, 2, 3, 3), 9, 65500, api.OK},
		// Coefficients that add up to more than the adder takes.
		{with(most, most, 1, most, 1, 1, 2), 0, 3, api.OK}, {with(most, most, 1, most, 1, most-1, 2, most-1, 3, -most, 4), 0, 5, api.ErrArg},
	} {
		if c, after, e := encode.One(x.l, x.guard, x.next); e != x.e || e != api.OK && (len(c) > 0 || after != 0) {
			t.Errorf("%d: %d, want %d", i, e, x.e)
		}
	}
}

// random makes a well-formed constraint over the variables 1 to n.
func random(r *sample.Source, n int) api.Lin {
	x := api.Lin{Least: r.Below(12) - 3}
	equal := r.Chance(2)
	for range r.Below(6) {
		c := r.Below(6) - 2
		if equal {
			c = 2
		}
		x.C, x.L = append(x.C, c), append(x.L, (1+r.Below(n))*(1-2*r.Below(2)))
	}
	return x
}

func TestMeaning(t *testing.T) {
	r := sample.New(2)
	seen, forms := 0, map[int]int{}
	for range 3000 {
		n := 1 + r.Below(4)
		x, guard := random(r, n), r.Below(2*n+1)-n
		old := fmt.Sprint(x)
		c, after, e := encode.One(x, guard, n+1)
		if e != api.OK || fmt.Sprint(x) != old {
			t.Fatal(x, guard, e)
		}
		if after-n-1 > 10 {
			continue
		}
		seen++
		how, _ := encode.How(x)
		forms[how]++
		for low := range 1 << n {
			a := make([]bool, n+1)
			for v := range n {
				a[v+1] = low>>v&1 == 1
			}
			want := lin.Value(x, a) || guard != 0 && a[max(guard, -guard)] != (guard > 0)
			if extends(c, a, n+1, after) != want {
				t.Fatal(x, guard, a, want)
			}
		}
	}
	if seen < 2000 || forms[2] < 50 || forms[4] < 50 {
		t.Error(seen, forms)
	}
}

// extends reports whether a can be extended to the variables from next to after - 1 such that all clauses hold.
func extends(c [][]int, a []bool, next, after int) bool {
	for high := range 1 << (after - next) {
		b := append(slices.Clone(a), make([]bool, after-next)...)
		for k := range after - next {
			b[next+k] = high>>k&1 == 1
		}
		if cnf.Value(api.Cnf{N: after - 1, L: c}, b) {
			return true
		}
	}
	return false
}

func TestAll(t *testing.T) {
	r := sample.New(3)
	for range 300 {
		var l []api.Lin
		var want [][]int
		next := 5
		for range r.Below(5) {
			// Later constraints may speak of the variables of earlier ones.
			x := random(r, next-1)
			c, after, e := encode.One(x, 0, next)
			if e != api.OK {
				t.Fatal(e)
			}
			l, want, next = append(l, x), append(want, c...), after
		}
		if c, after, e := encode.All(l, 5); e != api.OK || after != next || !slices.EqualFunc(c, want, slices.Equal) {
			t.Fatal(l, c, after, e)
		}
	}
	for i, x := range []struct {
		l    []api.Lin
		next int
		e    api.Errno
	}{
		{nil, 0, api.ErrArg}, {nil, 65538, api.ErrArg}, {nil, -far, api.ErrArg}, {nil, 1, api.OK}, {nil, 65537, api.OK}, {[]api.Lin{same(2, 1, 2), with(1, 1, 3)}, 3, api.OK}, {[]api.Lin{with(1, 1, 3), same(2, 1, 2)}, 3, api.ErrArg}, {[]api.Lin{same(2, 1, 2), with(1, 1, 5)}, 3, api.ErrArg},
		{[]api.Lin{same(2, 1, 2), same(2, 1, 2)}, 65534, api.ErrBound}, {[]api.Lin{same(2, 1, 2), same(2, 1, 2)}, 65533, api.OK}, {[]api.Lin{same(2, 1, 2), same(2, 1, 2), with(1, 1, 0)}, 65534, api.ErrBound}, {[]api.Lin{same(4097, 1, 1), with(1, 1, 0)}, 65000, api.ErrBound}, {[]api.Lin{with(1, 1, 0), same(4097, 1, 1)}, 65000, api.ErrArg},
	} {
		if c, after, e := encode.All(x.l, x.next); e != x.e || e != api.OK && (len(c) > 0 || after != 0) || len(x.l) == 0 && e == api.OK && after != x.next {
			t.Errorf("%d: %d, want %d", i, e, x.e)
		}
	}
}
