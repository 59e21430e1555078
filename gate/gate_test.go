package gate_test

import (
	"fmt"
	"slices"
	"testing"

	"chalkline/api"
	"chalkline/flat"
	"chalkline/gate"
	"chalkline/lin"
	"chalkline/sample"
)

func c(v int) api.Tree { return api.Tree{Kind: api.ConstG, V: v} }

func x(v int) api.Tree { return api.Tree{Kind: api.VarG, V: v} }

func not(t api.Tree) api.Tree { return api.Tree{Kind: api.NotG, L: []api.Tree{t}} }

func and(l ...api.Tree) api.Tree { return api.Tree{Kind: api.AndG, L: l} }

func or(l ...api.Tree) api.Tree { return api.Tree{Kind: api.OrG, L: l} }

func least(k int, l ...api.Tree) api.Tree { return api.Tree{Kind: api.LeastG, K: k, L: l} }

// spell writes constraints as 2*-3+1*1>=2.
func spell(l []api.Lin) string {
	out := ""
	for i, y := range l {
		if i > 0 {
			out += " "
		}
		for k, lit := range y.L {
			if k > 0 {
				out += "+"
			}
			out += fmt.Sprint(y.C[k], "*", lit)
		}
		out += fmt.Sprint(">=", y.Least)
	}
	return out
}

func TestGates(t *testing.T) {
	for i, y := range []struct {
		t          api.Tree
		next       int
		lit, after int
		want       string
	}{
		{and(x(1), not(x(2))), 3, 3, 4, "2*-3+1*1+1*-2>=2 1*3+1*-1+1*2>=1"},
		{x(1), 2, 1, 2, ""}, {not(x(1)), 2, -1, 2, ""}, {not(not(x(1))), 2, 1, 2, ""}, {x(65536), 65537, 65536, 65537, ""}, {not(x(65536)), 65537, -65536, 65537, ""},
		{c(1), 1, 1, 2, "1*1>=1"}, {c(0), 1, 1, 2, "1*-1>=1"}, {not(c(0)), 7, -7, 8, "1*-7>=1"}, {c(1), 65536, 65536, 65537, "1*65536>=1"},
		{and(), 1, 1, 2, "1*1>=1"}, {or(), 1, 1, 2, "1*-1>=1"}, {least(0), 4, 4, 5, "1*4>=1"}, {least(1), 4, 4, 5, "1*-4>=1"}, {least(0, x(1), x(2)), 3, 3, 4, "1*3>=1"}, {least(3, x(1), x(2)), 3, 3, 4, "1*-3>=1"}, {least(1<<40, x(1)), 3, 3, 4, "1*-3>=1"},
		{and(x(1)), 2, 2, 3, "1*-2+1*1>=1 1*2+1*-1>=1"}, {or(x(1)), 2, 2, 3, "1*-2+1*1>=1 1*2+1*-1>=1"}, {or(x(1), x(2), x(1)), 3, 3, 4, "1*-3+1*1+1*2+1*1>=1 3*3+1*-1+1*-2+1*-1>=3"},
		{and(x(1), x(2), x(3)), 4, 4, 5, "3*-4+1*1+1*2+1*3>=3 1*4+1*-1+1*-2+1*-3>=1"}, {least(2, x(1), x(2), x(3)), 4, 4, 5, "2*-4+1*1+1*2+1*3>=2 2*4+1*-1+1*-2+1*-3>=2"}, {least(2, x(1), x(2)), 9, 9, 10, "2*-9+1*1+1*2>=2 1*9+1*-1+1*-2>=1"},
		{or(and(x(1), x(2)), not(or(x(2), c(1)))), 3, 6, 7, "2*-3+1*1+1*2>=2 1*3+1*-1+1*-2>=1 1*4>=1 1*-5+1*2+1*4>=1 2*5+1*-2+1*-4>=2 1*-6+1*3+1*-5>=1 2*6+1*-3+1*5>=2"},
		{not(and(or(x(1)), x(2))), 5, -6, 7, "1*-5+1*1>=1 1*5+1*-1>=1 2*-6+1*5+1*2>=2 1*6+1*-5+1*-2>=1"},
	} {
		lit, l, after, e := gate.Gates(y.t, y.next)
		if lit != y.lit || after != y.after || spell(l) != y.want || e != api.OK {
			t.Errorf("%d: %d, %s, %d, %d", i, lit, spell(l), after, e)
		}
	}
}

// wide is an AndG of n variables 1.
func wide(n int) api.Tree {
	return and(slices.Repeat([]api.Tree{x(1)}, n)...)
}

func TestGatesErrors(t *testing.T) {
	deep, many := x(1), and()
	for range 300 {
		deep = and(deep)
	}
	for range 4000 {
		many.L = append(many.L, or())
	}
	huge := and()
	for range 17 {
		huge.L = append(huge.L, wide(4000))
	}
	for i, y := range []struct {
		t    api.Tree
		next int
		e    api.Errno
	}{
		{c(0), 0, api.ErrArg}, {c(0), -1, api.ErrArg}, {c(0), 65538, api.ErrArg}, {c(0), 1<<63 - 1, api.ErrArg}, {c(0), -1 << 63, api.ErrArg}, {huge, 0, api.ErrArg}, {x(1), 1, api.ErrArg}, {x(2), 2, api.ErrArg}, {api.Tree{}, 5, api.ErrArg}, {and(x(1), c(2)), 5, api.ErrArg},
		{huge, 2, api.ErrBound}, {wide(4095), 2, api.OK}, {wide(4096), 2, api.ErrBound}, {least(0, wide(4096).L...), 2, api.ErrBound}, {not(or(wide(4096))), 2, api.ErrBound}, {and(wide(4096), c(3)), 2, api.ErrArg},
		{c(0), 65536, api.OK}, {c(0), 65537, api.ErrBound}, {x(1), 65537, api.OK}, {or(c(1)), 65536, api.ErrBound}, {or(c(1)), 65535, api.OK}, {deep, 65537 - 300, api.OK}, {deep, 65538 - 300, api.ErrBound}, {many, 65537 - 4001, api.OK}, {many, 65538 - 4001, api.ErrBound},
	} {
		lit, l, after, e := gate.Gates(y.t, y.next)
		if e != y.e || e != api.OK && (lit != 0 || len(l) > 0 || after != 0) {
			t.Errorf("%d: %d, %d, %d; want %d", i, lit, after, e, y.e)
		}
		lits, l, after, e := gate.All([]api.Tree{y.t}, y.next)
		if e != y.e || e != api.OK && (len(lits) > 0 || len(l) > 0 || after != 0) {
			t.Errorf("%d: All gives %v, %d, %d; want %d", i, lits, after, e, y.e)
		}
	}
}

func TestAll(t *testing.T) {
	for i, y := range []struct {
		l     []api.Tree
		next  int
		lits  []int
		want  string
		after int
		e     api.Errno
	}{
		{nil, 1, nil, "", 1, api.OK}, {nil, 65537, nil, "", 65537, api.OK}, {nil, 0, nil, "", 0, api.ErrArg}, {nil, 65538, nil, "", 0, api.ErrArg}, {nil, -5, nil, "", 0, api.ErrArg},
		{[]api.Tree{x(1), c(1), not(or(x(1)))}, 2, []int{1, 2, -3}, "1*2>=1 1*-3+1*1>=1 1*3+1*-1>=1", 4, api.OK},
		// A formula may speak of the variables of those before it.
		{[]api.Tree{or(), not(x(2)), and(x(3))}, 2, nil, "", 0, api.ErrArg}, {[]api.Tree{or(), not(x(2)), and(x(2))}, 2, []int{2, -2, 3}, "1*-2>=1 1*-3+1*2>=1 1*3+1*-2>=1", 4, api.OK},
		{[]api.Tree{or(), or()}, 65535, []int{65535, 65536}, "1*-65535>=1 1*-65536>=1", 65537, api.OK}, {[]api.Tree{or(), or()}, 65536, nil, "", 0, api.ErrBound}, {[]api.Tree{or(), or(), {}}, 65536, nil, "", 0, api.ErrBound}, {[]api.Tree{or(), {}, wide(4096)}, 2, nil, "", 0, api.ErrArg},
	} {
		lits, l, after, e := gate.All(y.l, y.next)
		if !slices.Equal(lits, y.lits) || spell(l) != y.want || after != y.after || e != y.e {
			t.Errorf("%d: %v, %s, %d, %d", i, lits, spell(l), after, e)
		}
	}
}

// random makes a well-formed tree over the variables 1 to n with at most left inner nodes.
func random(r *sample.Source, n, depth int) api.Tree {
	if depth <= 1 || r.Chance(4) {
		if r.Chance(6) {
			return c(r.Below(2))
		}
		return x(1 + r.Below(n))
	}
	t := api.Tree{Kind: api.NotG + r.Below(4)}
	width := r.Below(4)
	if t.Kind == api.NotG {
		width = 1
	}
	if t.Kind == api.LeastG {
		t.K = r.Below(5)
	}
	for range width {
		t.L = append(t.L, random(r, n, depth-1))
	}
	return t
}

func TestOneExtension(t *testing.T) {
	r := sample.New(1)
	seen := 0
	for range 1500 {
		n := 1 + r.Below(3)
		trees := []api.Tree{random(r, n, 3), random(r, n, 3)}
		lits, l, after, e := gate.All(trees, n+1)
		if e != api.OK {
			t.Fatal(e)
		}
		if after > 10 {
			continue
		}
		seen++
		for _, y := range l {
			if e := lin.Check(y, after-1); e != api.OK {
				t.Fatal(y, e)
			}
		}
		for bits := range 1 << n {
			solutions := 0
			for more := range 1 << (after - 1 - n) {
				a := make([]bool, after)
				for v := 1; v < after; v++ {
					a[v] = (bits|more<<n)>>(v-1)&1 == 1
				}
				if slices.ContainsFunc(l, func(y api.Lin) bool { return !lin.Value(y, a) }) {
					continue
				}
				solutions++
				for i, lit := range lits {
					if (a[max(lit, -lit)] == (lit > 0)) != flat.Value(trees[i], a[:n+1]) {
						t.Fatal(trees[i], lit, a)
					}
				}
			}
			if solutions != 1 {
				t.Fatal(solutions, "extensions", trees)
			}
		}
	}
	if seen < 500 {
		t.Error(seen)
	}
}

func TestGatesOneByOne(t *testing.T) {
	r := sample.New(2)
	for range 300 {
		n := 1 + r.Below(4)
		var trees []api.Tree
		var lits []int
		var l []api.Lin
		next := n + 1
		for range r.Below(4) {
			y := random(r, n, 5)
			old := fmt.Sprint(y)
			lit, more, after, e := gate.Gates(y, next)
			if e != api.OK || fmt.Sprint(y) != old {
				t.Fatal(y, e)
			}
			trees, lits, l, next = append(trees, y), append(lits, lit), append(l, more...), after
		}
		a, b, after, e := gate.All(trees, n+1)
		if !slices.Equal(a, lits) || spell(b) != spell(l) || after != next || e != api.OK {
			t.Fatal(trees)
		}
	}
}

func TestConstraintsShareNothing(t *testing.T) {
	_, l, _, _ := gate.Gates(and(or(x(1), x(2)), x(1)), 3)
	old := spell(l[1:])
	l[0].C[0], l[0].L[0] = 9, 9
	l[0].C, l[0].L = append(l[0].C, 7), append(l[0].L, 7)
	if spell(l[1:]) != old {
		t.Error("constraints share memory")
	}
}
