package total_test

import (
	"fmt"
	"slices"
	"testing"

	"chalkline/api"
	"chalkline/cnf"
	"chalkline/sample"
	"chalkline/total"
)

const far = 1<<63 - 1

// firsts returns the literals 1 to n.
func firsts(n int) (l []int) {
	for i := range n {
		l = append(l, i+1)
	}
	return l
}

func TestTotal(t *testing.T) {
	for i, x := range []struct {
		l          []int
		most, next int
		outs       string
		c          string
		after      int
	}{
		{[]int{1, 2}, 2, 3, "[3 4]", "[[1 2 -3] [-2 3] [1 -4] [-1 3] [2 -4] [-1 -2 4]]", 5},
		{[]int{-1, 2}, 1, 7, "[7]", "[[-1 2 -7] [-2 7] [1 7]]", 8},
		{nil, 5, 1, "[]", "[]", 1}, {nil, 0, 65537, "[]", "[]", 65537}, {[]int{-1}, 1, 2, "[-1]", "[]", 2}, {[]int{1}, 1 << 40, 65537, "[1]", "[]", 65537}, {[]int{1}, 0, 2, "[]", "[]", 2}, {[]int{1, 2, 3}, 0, 4, "[]", "[]", 4},
		{[]int{3, -1, 2}, 3, 4, "[6 7 8]", "[[-1 2 -4] [-2 4] [-1 -5] [1 4] [2 -5] [1 -2 5] [3 4 -6] [-4 6] [3 5 -7] [-5 7] [3 -8] [-3 6] [4 -7] [-3 -4 7] [5 -8] [-3 -5 8]]", 9},
		{[]int{3, -1, 2}, 1, 4, "[5]", "[[-1 2 -4] [-2 4] [1 4] [3 4 -5] [-4 5] [-3 5]]", 6},
		{[]int{3, -1, 2}, 2, 4, "[6 7]", "[[-1 2 -4] [-2 4] [-1 -5] [1 4] [2 -5] [1 -2 5] [3 4 -6] [-4 6] [3 5 -7] [-5 7] [-3 6] [4 -7] [-3 -4 7]]", 8},
	} {
		outs, c, after, e := total.Total(x.l, x.most, x.next)
		if fmt.Sprint(outs) != x.outs || fmt.Sprint(c) != x.c || after != x.after || e != api.OK {
			t.Errorf("%d: %v, %v, %d, %d", i, outs, c, after, e)
		}
	}
}

func TestErrors(t *testing.T) {
	for i, x := range []struct {
		l          []int
		most, next int
		e          api.Errno
	}{
		{nil, 1, 0, api.ErrArg}, {nil, 1, 65538, api.ErrArg}, {nil, 1, -1, api.ErrArg}, {nil, 1, far, api.ErrArg}, {nil, 1, -far - 1, api.ErrArg}, {nil, 1, 1, api.OK}, {nil, 1, 65537, api.OK},
		{nil, -1, 1, api.ErrArg}, {nil, -far - 1, 1, api.ErrArg}, {nil, 1 << 40, 1, api.OK}, {nil, 1<<40 + 1, 1, api.ErrArg}, {nil, far, 1, api.ErrArg}, {firsts(4096), 0, 4097, api.OK}, {firsts(4097), 0, 4098, api.ErrArg}, {append(firsts(4096), 0), 0, 4098, api.ErrArg},
		{[]int{0}, 1, 5, api.ErrLit}, {[]int{5}, 1, 5, api.ErrLit}, {[]int{-5}, 1, 5, api.ErrLit}, {[]int{4, -3}, 1, 5, api.OK}, {[]int{1}, 1, 1, api.ErrLit}, {[]int{far}, 1, 5, api.ErrLit}, {[]int{-far - 1}, 1, 5, api.ErrLit}, {[]int{1, 1}, 1, 5, api.ErrLit}, {[]int{1, -1}, 1, 5, api.ErrLit}, {[]int{-1, 2, 1}, 1, 5, api.ErrLit}, {[]int{-1, 2, -1}, 0, 5, api.ErrLit}, {[]int{0}, -1, 5, api.ErrArg},
		{[]int{1, 2}, 2, 65535, api.OK}, {[]int{1, 2}, 2, 65536, api.ErrBound}, {[]int{1, 2}, 1, 65536, api.OK}, {[]int{1, 2}, 1, 65537, api.ErrBound}, {[]int{1, 2}, 0, 65537, api.OK}, {[]int{1, 2, 3}, 3, 65537 - 5, api.OK}, {[]int{1, 2, 3}, 3, 65537 - 4, api.ErrBound}, {[]int{1, 2, 3, 2}, 3, 65537, api.ErrLit},
		{firsts(4096), 4096, 20000, api.ErrBound}, {firsts(4096), 1 << 40, 16386, api.ErrBound}, {firsts(4096), 1, 65537 - 4095, api.OK}, {firsts(4096), 1, 65537 - 4094, api.ErrBound},
	} {
		outs, c, after, e := total.Total(x.l, x.most, x.next)
		if e != x.e || e != api.OK && (len(outs) > 0 || len(c) > 0 || after != 0) {
			t.Errorf("%d: %d, want %d", i, e, x.e)
		}
	}
}

// byWords is the construction in the chapter's words.
func byWords(l []int, most, next int) (outs []int, c [][]int, after int) {
	if len(l) == 0 || most == 0 {
		return nil, nil, next
	}
	if len(l) == 1 {
		return l, nil, next
	}
	half := len(l) / 2
	a, c, after := byWords(l[:half], most, next)
	b, more, after := byWords(l[half:], most, after)
	c = append(c, more...)
	for range min(len(l), most) {
		outs = append(outs, after)
		after++
	}
	for i := 0; i <= len(a); i++ {
		for k := 0; k <= len(b); k++ {
			n := i + k
			if 1 <= n && n <= len(outs) {
				x := []int{}
				if i > 0 {
					x = append(x, -a[i-1])
				}
				if k > 0 {
					x = append(x, -b[k-1])
				}
				c = append(c, append(x, outs[n-1]))
			}
			if n < len(outs) {
				x := []int{}
				if i < len(a) {
					x = append(x, a[i])
				}
				if k < len(b) {
					x = append(x, b[k])
				}
				c = append(c, append(x, -outs[n]))
			}
		}
	}
	return outs, c, after
}

func TestConstruction(t *testing.T) {
	r := sample.New(1)
	for range 300 {
		var l []int
		for i := range r.Below(20) {
			l = append(l, (i+1)*(1-2*r.Below(2)))
		}
		most, next := r.Below(22), len(l)+1+r.Below(9)
		old := slices.Clone(l)
		outs, c, after, e := total.Total(l, most, next)
		x, y, z := byWords(l, most, next)
		if e != api.OK || !slices.Equal(outs, x) || !slices.EqualFunc(c, y, slices.Equal) || after != z || !slices.Equal(l, old) {
			t.Fatal(l, most, next, outs, c, after, e)
		}
	}
}

// models counts the assignments of the variables from next to after - 1 that satisfy c, and returns the last of them.
func models(c [][]int, a []bool, next, after int) (n int, last []bool) {
	for bits := range 1 << (after - next) {
		b := append(slices.Clone(a[:next]), make([]bool, after-next)...)
		for k := range after - next {
			b[next+k] = bits>>k&1 == 1
		}
		if cnf.Value(api.Cnf{N: after - 1, L: c}, b) {
			n, last = n+1, b
		}
	}
	return n, last
}

func TestMeaning(t *testing.T) {
	for _, l := range [][]int{nil, {1}, {-1}, {1, 2}, {-1, 2}, {1, 2, 3}, {3, -1, -2}, {1, -2, 3, -4}} {
		for most := range 6 {
			next := len(l) + 1
			outs, c, after, e := total.Total(l, most, next)
			if e != api.OK || len(outs) != min(len(l), most) {
				t.Fatal(l, most, outs, e)
			}
			for bits := range 1 << len(l) {
				a := make([]bool, next)
				for k := range len(l) {
					a[k+1] = bits>>k&1 == 1
				}
				count := 0
				for _, lit := range l {
					if a[max(lit, -lit)] == (lit > 0) {
						count++
					}
				}
				n, b := models(c, a, next, after)
				if n != 1 {
					t.Fatal(l, most, a, n, "extensions")
				}
				for i, lit := range outs {
					if (b[max(lit, -lit)] == (lit > 0)) != (count > i) {
						t.Fatal(l, most, b, outs)
					}
				}
			}
		}
	}
}

func TestMemoryIsNotShared(t *testing.T) {
	l := []int{1, 2, 3, 4}
	outs, c, _, _ := total.Total(l, 4, 5)
	old := fmt.Sprint(c)
	l[0] = 9
	outs[0] = 9
	if fmt.Sprint(c) != old {
		t.Error("results share memory")
	}
	one := []int{1}
	outs, _, _, _ = total.Total(one, 1, 2)
	if one[0] = 9; outs[0] != 1 {
		t.Error("a result shares memory with an argument")
	}
	rest := fmt.Sprint(c[1:])
	c[0] = append(c[0], 7, 7, 7)
	c[0][0] = 7
	if fmt.Sprint(c[1:]) != rest {
		t.Error("clauses share memory")
	}
}
