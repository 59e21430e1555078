package flat_test

import (
	"fmt"
	"slices"
	"testing"
	"time"

	"chalkline/api"
	"chalkline/flat"
	"chalkline/sample"
)

func c(v int) api.Tree { return api.Tree{Kind: api.ConstG, V: v} }

func x(v int) api.Tree { return api.Tree{Kind: api.VarG, V: v} }

func not(t api.Tree) api.Tree { return api.Tree{Kind: api.NotG, L: []api.Tree{t}} }

func and(l ...api.Tree) api.Tree { return api.Tree{Kind: api.AndG, L: l} }

func or(l ...api.Tree) api.Tree { return api.Tree{Kind: api.OrG, L: l} }

func least(k int, l ...api.Tree) api.Tree { return api.Tree{Kind: api.LeastG, K: k, L: l} }

// spell writes every field of a tree.
func spell(t api.Tree) string {
	out := fmt.Sprint(t.Kind, ",", t.V, ",", t.K, "(")
	for _, y := range t.L {
		out += spell(y) + " "
	}
	return out + ")"
}

// random makes a well-formed tree over the variables 1 to n.
func random(r *sample.Source, n, depth int) api.Tree {
	kind := 1 + r.Below(6)
	if depth <= 1 {
		kind = 1 + r.Below(2)
	}
	t := api.Tree{Kind: kind}
	width := r.Below(4)
	switch kind {
	case api.ConstG:
		t.V = r.Below(2)
		return t
	case api.VarG:
		t.V = 1 + r.Below(n)
		return t
	case api.NotG:
		width = 1
	case api.LeastG:
		t.K = r.Below(5)
	}
	for range width {
		t.L = append(t.L, random(r, n, depth-1))
	}
	return t
}

// chain puts Nots around a tree.
func chain(n int, t api.Tree) api.Tree {
	for range n {
		t = not(t)
	}
	return t
}

func TestCheck(t *testing.T) {
	wide := and(make([]api.Tree, 65535)...)
	for i := range wide.L {
		wide.L[i] = x(1)
	}
	wider := and(append(wide.L, x(1))...)
	for i, y := range []struct {
		t api.Tree
		n int
		e api.Errno
	}{
		{c(0), 0, api.OK}, {c(1), 0, api.OK}, {c(2), 0, api.ErrArg}, {c(-1), 0, api.ErrArg}, {c(0), -1, api.ErrArg}, {c(0), 65536, api.OK}, {c(0), 65537, api.ErrArg}, {c(0), 1<<63 - 1, api.ErrArg},
		{x(1), 1, api.OK}, {x(1), 0, api.ErrArg}, {x(65536), 65536, api.OK}, {x(3), 2, api.ErrArg}, {x(0), 5, api.ErrArg}, {x(-1), 5, api.ErrArg}, {x(65537), 65536, api.ErrArg},
		{not(x(1)), 1, api.OK}, {api.Tree{Kind: api.NotG}, 1, api.ErrArg}, {api.Tree{Kind: api.NotG, L: []api.Tree{x(1), x(1)}}, 1, api.ErrArg},
		{and(), 0, api.OK}, {or(), 0, api.OK}, {least(0), 0, api.OK}, {and(x(1), or(x(2), least(2, x(1)))), 2, api.OK}, {least(1 << 40), 0, api.OK}, {least(1<<40 + 1), 0, api.ErrArg}, {least(-1), 0, api.ErrArg},
		{api.Tree{}, 5, api.ErrArg}, {api.Tree{Kind: 7}, 5, api.ErrArg}, {api.Tree{Kind: -1}, 5, api.ErrArg},
		{api.Tree{Kind: api.ConstG, K: 1}, 5, api.ErrArg}, {api.Tree{Kind: api.ConstG, L: []api.Tree{c(0)}}, 5, api.ErrArg}, {api.Tree{Kind: api.VarG, V: 1, K: 1}, 5, api.ErrArg}, {api.Tree{Kind: api.VarG, V: 1, L: []api.Tree{c(0)}}, 5, api.ErrArg},
		{api.Tree{Kind: api.NotG, V: 1, L: []api.Tree{c(0)}}, 5, api.ErrArg}, {api.Tree{Kind: api.NotG, K: 1, L: []api.Tree{c(0)}}, 5, api.ErrArg}, {api.Tree{Kind: api.AndG, V: 1}, 5, api.ErrArg}, {api.Tree{Kind: api.AndG, K: 1}, 5, api.ErrArg},
		{api.Tree{Kind: api.OrG, V: 1}, 5, api.ErrArg}, {api.Tree{Kind: api.OrG, K: 1}, 5, api.ErrArg}, {api.Tree{Kind: api.LeastG, V: 1}, 5, api.ErrArg},
		{and(x(1), not(x(6))), 5, api.ErrArg}, {or(x(1), not(not(least(1, c(2))))), 5, api.ErrArg}, {wide, 1, api.OK}, {wider, 1, api.ErrBound}, {and(wider, c(2)), 1, api.ErrArg}, {wider, 0, api.ErrArg},
		{chain(65535, c(1)), 0, api.OK}, {chain(65536, c(1)), 0, api.ErrBound}, {chain(65536, c(2)), 0, api.ErrArg}, {wider, 65537, api.ErrArg},
	} {
		if e := flat.Check(y.t, y.n); e != y.e {
			t.Errorf("%d: %d, want %d", i, e, y.e)
		}
		if s, e := flat.Simple(y.t), flat.Check(y.t, 65536); (e == api.OK) == (s.Kind == 0 && s.V == 0 && s.K == 0 && len(s.L) == 0) {
			t.Errorf("%d: Simple gives kind %d", i, s.Kind)
		}
	}
}

func TestSizeAndVars(t *testing.T) {
	odd := api.Tree{Kind: 99, V: 3, L: []api.Tree{x(-4), {Kind: api.VarG, V: 9, L: []api.Tree{x(9), x(0)}}, {V: 77}}}
	for i, y := range []struct {
		t    api.Tree
		size int
		vars []int
	}{
		{api.Tree{}, 1, nil}, {c(1), 1, nil}, {x(5), 1, []int{5}}, {and(), 1, nil}, {and(x(3), x(1), or(x(3), not(x(2)))), 7, []int{1, 2, 3}}, {odd, 6, []int{-4, 0, 9}}, {chain(60000, x(7)), 60001, []int{7}},
		{least(7, x(1<<62), x(-1<<63)), 3, []int{-1 << 63, 1 << 62}},
	} {
		if n := flat.Size(y.t); n != y.size {
			t.Errorf("%d: size %d", i, n)
		}
		if l := flat.Vars(y.t); !slices.Equal(l, y.vars) {
			t.Errorf("%d: variables %v", i, l)
		}
	}
}

func TestSame(t *testing.T) {
	l := []api.Tree{{}, c(0), c(1), x(1), x(2), not(x(1)), and(), or(), least(0), least(1), and(x(1)), and(x(1), x(2)), and(x(2), x(1)), and(x(1), x(2), x(2)), or(x(1), x(2)), least(1, x(1), x(2)), least(2, x(1), x(2)), not(not(x(1))), {Kind: 50, V: 1}, {Kind: 50, K: 1}, {Kind: 50, L: []api.Tree{{}}}}
	for i, a := range l {
		for k, b := range l {
			if flat.Same(a, b) != (i == k) || flat.Same(not(and(a, x(1))), not(and(b, x(1)))) != (i == k) {
				t.Error(i, k)
			}
		}
	}
	if !flat.Same(and(), api.Tree{Kind: api.AndG, L: []api.Tree{}}) || !flat.Same(chain(60000, x(1)), chain(60000, x(1))) || flat.Same(chain(60000, x(1)), chain(60000, x(2))) {
		t.Error("empty lists or deep trees")
	}
}

func TestValue(t *testing.T) {
	a := []bool{true, true, false}
	for i, y := range []struct {
		t    api.Tree
		want bool
	}{
		{c(1), true}, {c(0), false}, {c(2), false}, {c(-1), false}, {x(1), true}, {x(2), false}, {x(3), false}, {x(0), false}, {x(-1), false}, {x(1 << 62), false}, {x(-1 << 63), false},
		{not(x(1)), false}, {not(x(2)), true}, {api.Tree{Kind: api.NotG}, true}, {api.Tree{Kind: api.NotG, L: []api.Tree{x(2), x(2)}}, true}, {api.Tree{Kind: api.NotG, L: []api.Tree{x(2), x(1)}}, false},
		{and(), true}, {and(x(1)), true}, {and(x(1), x(2)), false}, {and(x(1), c(1)), true}, {or(), false}, {or(x(2)), false}, {or(x(2), x(1)), true},
		{least(0), true}, {least(-5), true}, {least(1), false}, {least(1, x(1), x(2)), true}, {least(2, x(1), x(2)), false}, {least(2, x(1), x(2), c(1)), true}, {least(1<<63-1, x(1)), false}, {least(-1<<63, x(1)), true},
		{api.Tree{Kind: 9, V: 1, L: []api.Tree{c(1)}}, false}, {api.Tree{}, false}, {not(api.Tree{Kind: 9}), true}, {api.Tree{Kind: api.ConstG, V: 1, L: []api.Tree{c(0)}}, true}, {api.Tree{Kind: api.VarG, V: 1, K: 9}, true},
		{chain(60000, c(1)), true}, {chain(60001, c(1)), false},
	} {
		if v := flat.Value(y.t, a); v != y.want {
			t.Errorf("%d: %v", i, v)
		}
	}
	if flat.Value(x(1), nil) || !flat.Value(not(x(1)), nil) {
		t.Error("variables beyond the assignment")
	}
}

func TestSimple(t *testing.T) {
	p, q, r := x(1), x(2), x(3)
	for i, y := range []struct{ t, want api.Tree }{
		{c(0), c(0)}, {c(1), c(1)}, {p, p}, {not(p), not(p)}, {not(not(p)), p}, {not(not(not(p))), not(p)}, {not(c(0)), c(1)}, {not(c(1)), c(0)}, {not(and(p, c(0))), c(1)}, {not(and(p, q)), not(and(p, q))},
		{and(), c(1)}, {or(), c(0)}, {and(p), p}, {or(p), p}, {and(c(1)), c(1)}, {or(c(0)), c(0)}, {and(c(0)), c(0)}, {or(c(1)), c(1)}, {and(p, c(1), q), and(p, q)}, {or(p, c(0), q), or(p, q)},
		{and(p, c(0), q), c(0)}, {or(p, c(1), q), c(1)}, {and(p, and(q, r), c(1)), and(p, q, r)}, {or(or(p, q), r), or(p, q, r)}, {and(and(and(p), and()), and(q, and(r))), and(p, q, r)}, {and(p, or(q, r)), and(p, or(q, r))}, {or(p, and(q, r)), or(p, and(q, r))},
		{and(p, p), and(p, p)}, {or(p, not(p)), or(p, not(p))}, {and(p, or(and(q, r))), and(p, q, r)}, {and(not(not(and(p, q))), r), and(p, q, r)}, {or(p, and(or(q, r))), or(p, q, r)}, {and(p, and(q, c(0))), c(0)}, {or(and(p, c(0)), q), q},
		{least(0, p), c(1)}, {least(0), c(1)}, {least(1), c(0)}, {least(1, p), p}, {least(2, p), c(0)}, {least(2, p, q), and(p, q)}, {least(1, p, q), or(p, q)}, {least(2, p, q, r), least(2, p, q, r)}, {least(3, p, q, r), and(p, q, r)}, {least(4, p, q, r), c(0)},
		{least(2, p, q, c(1)), or(p, q)}, {least(1, p, c(1)), c(1)}, {least(2, p, c(1)), p}, {least(3, p, q, c(1), c(0), c(1)), or(p, q)}, {least(3, p, q, r, c(1)), least(2, p, q, r)}, {least(2, p, q, r, c(0)), least(2, p, q, r)}, {least(3, p, q, c(0)), c(0)},
		{least(2, and(p, q), r), and(p, q, r)}, {least(1, or(p, q), r), or(p, q, r)}, {least(2, or(p, q), r), and(or(p, q), r)}, {least(1, and(p, q), r), or(and(p, q), r)}, {least(1, and(p, q)), and(p, q)}, {least(1, or(p, q)), or(p, q)},
		{least(2, and(p, q), not(not(or(q, r))), r), least(2, and(p, q), or(q, r), r)}, {and(least(2, p, q), r), and(p, q, r)}, {or(least(1, p, q), r), or(p, q, r)}, {not(least(2, c(1), c(1))), c(0)}, {least(1<<40, p, q), c(0)},
		{and(least(1, p, and(q, c(0))), not(or(c(0), not(q)))), and(p, q)}, {least(2, p, p), and(p, p)}, {least(1, not(not(p)), not(c(1))), p},
	} {
		if s := flat.Simple(y.t); spell(s) != spell(y.want) {
			t.Errorf("%d: %s, want %s", i, spell(s), spell(y.want))
		}
	}
}

func TestSimpleOfRandomTrees(t *testing.T) {
	r := sample.New(1)
	changed := 0
	for range 4000 {
		n := 1 + r.Below(5)
		y := random(r, n, 1+r.Below(6))
		old := spell(y)
		s := flat.Simple(y)
		if spell(y) != old {
			t.Fatal("an argument was changed")
		}
		if spell(s) != old {
			changed++
		}
		if flat.Size(s) > flat.Size(y) || spell(flat.Simple(s)) != spell(s) || flat.Check(s, n) != api.OK {
			t.Fatal(old, spell(s))
		}
		for _, v := range flat.Vars(s) {
			if !slices.Contains(flat.Vars(y), v) {
				t.Fatal("a new variable", old, spell(s))
			}
		}
		if s.Kind != api.ConstG && hasConstant(s) {
			t.Fatal("a constant inside", old, spell(s))
		}
		for bits := range 1 << n {
			a := make([]bool, n+1)
			for v := range n {
				a[v+1] = bits>>v&1 == 1
			}
			if flat.Value(s, a) != flat.Value(y, a) {
				t.Fatal(old, spell(s), a)
			}
		}
	}
	if changed < 1000 {
		t.Error(changed)
	}
}

func hasConstant(t api.Tree) bool {
	return t.Kind == api.ConstG || slices.ContainsFunc(t.L, hasConstant)
}

func TestDeepTrees(t *testing.T) {
	start := time.Now()
	left, right, mixed := x(1), x(1), x(1)
	for i := range 32000 {
		left, right = and(left, x(2+i)), or(x(2+i), right)
	}
	for i := range 5000 {
		mixed = and(x(2+i), not(not(or(mixed))))
	}
	a, b, m := flat.Simple(left), flat.Simple(right), flat.Simple(mixed)
	if len(a.L) != 32001 || a.L[0].V != 1 || a.L[32000].V != 32001 || len(b.L) != 32001 || b.L[0].V != 32001 || len(m.L) != 5001 {
		t.Error(len(a.L), len(b.L), len(m.L))
	}
	if s := flat.Simple(chain(65534, x(1))); spell(s) != spell(x(1)) {
		t.Error(spell(s))
	}
	if d := time.Since(start); d > 20*time.Second {
		t.Error("deep trees take", d)
	}
}

func TestNoSharedMemory(t *testing.T) {
	y := and(or(x(1), x(2)), least(2, x(1), x(2), x(3)), not(and(x(1), x(2))))
	s := flat.Simple(y)
	want := spell(s)
	y.L[0].L[0], y.L[1].L[1], y.L[2].L[0] = c(0), c(0), c(0)
	y.L[0].L[1] = c(1)
	if spell(s) != want {
		t.Error("a result shares memory with an argument")
	}
	z := and(least(2, and(x(1), x(2)), x(3)), x(4))
	u := flat.Simple(z)
	z.L[0].L[0].L[0] = c(0)
	if spell(u) != spell(and(x(1), x(2), x(3), x(4))) {
		t.Error(spell(u))
	}
}
