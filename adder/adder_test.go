package adder_test

import (
	"fmt"
	"slices"
	"testing"

	"chalkline/adder"
	"chalkline/api"
	"chalkline/cnf"
	"chalkline/sample"
)

const far = 1<<63 - 1

func repeat(x, n int) []int { return slices.Repeat([]int{x}, n) }

func TestSum(t *testing.T) {
	for i, x := range []struct {
		coef, l []int
		next    int
		bits, c string
		after   int
	}{
		{[]int{1, 1}, []int{1, 2}, 3, "[3 4]", "[[1 2 -3] [-1 2 3] [1 -2 3] [-1 -2 -3] [-1 -2 4] [1 -4] [2 -4]]", 5},
		{nil, nil, 1, "[]", "[]", 1}, {nil, nil, 65537, "[]", "[]", 65537}, {[]int{0, 0}, []int{1, -2}, 3, "[]", "[]", 3}, {[]int{1}, []int{-1}, 2, "[-1]", "[]", 2}, {[]int{2}, []int{1}, 2, "[0 1]", "[]", 2}, {[]int{5, 2}, []int{1, -2}, 3, "[1 -2 1]", "[]", 3},
		{[]int{1, 1, 1}, []int{1, -2, 3}, 4, "[4 5]", "[[1 -2 3 -4] [-1 -2 3 4] [1 2 3 4] [-1 2 3 -4] [1 -2 -3 4] [-1 -2 -3 -4] [1 2 -3 -4] [-1 2 -3 4] [-1 2 5] [-1 -3 5] [2 -3 5] [1 -2 -5] [1 3 -5] [-2 3 -5]]", 6},
		{[]int{3, 1}, []int{1, 2}, 3, "[3 5 6]", "[[1 2 -3] [-1 2 3] [1 -2 3] [-1 -2 -3] [-1 -2 4] [1 -4] [2 -4] [1 4 -5] [-1 4 5] [1 -4 5] [-1 -4 -5] [-1 -4 6] [1 -6] [4 -6]]", 7},
		{[]int{1, 1}, []int{1, 1}, 3, "[3 4]", "[[1 1 -3] [-1 1 3] [1 -1 3] [-1 -1 -3] [-1 -1 4] [1 -4] [1 -4]]", 5},
		{[]int{1 << 40}, []int{7}, 8, fmt.Sprint(append(make([]int, 40), 7)), "[]", 8},
	} {
		bits, c, after, e := adder.Sum(x.coef, x.l, x.next)
		if fmt.Sprint(bits) != x.bits || fmt.Sprint(c) != x.c || after != x.after || e != api.OK {
			t.Errorf("%d: %v, %v, %d, %d", i, bits, c, after, e)
		}
	}
}

func TestSumErrors(t *testing.T) {
	for i, x := range []struct {
		coef, l []int
		next    int
		e       api.Errno
	}{
		{nil, nil, 0, api.ErrArg}, {nil, nil, -1, api.ErrArg}, {nil, nil, 65538, api.ErrArg}, {nil, nil, far, api.ErrArg}, {nil, nil, -far - 1, api.ErrArg}, {[]int{1}, nil, 5, api.ErrArg}, {nil, []int{1}, 5, api.ErrArg}, {[]int{1, 1}, []int{1}, 5, api.ErrArg},
		{[]int{-1}, []int{1}, 5, api.ErrArg}, {[]int{1<<40 + 1}, []int{1}, 5, api.ErrArg}, {[]int{1 << 40}, []int{1}, 5, api.OK}, {[]int{far}, []int{1}, 5, api.ErrArg}, {[]int{-far - 1}, []int{1}, 5, api.ErrArg},
		{[]int{1}, []int{0}, 5, api.ErrArg}, {[]int{1}, []int{5}, 5, api.ErrArg}, {[]int{1}, []int{-5}, 5, api.ErrArg}, {[]int{1}, []int{4}, 5, api.OK}, {[]int{1}, []int{-4}, 5, api.OK}, {[]int{1}, []int{far}, 5, api.ErrArg}, {[]int{1}, []int{-far - 1}, 5, api.ErrArg}, {[]int{1}, []int{1}, 1, api.ErrArg},
		{repeat(0, 4096), repeat(1, 4096), 2, api.OK}, {repeat(0, 4097), repeat(1, 4097), 2, api.ErrBound}, {append(repeat(0, 4097), -1), repeat(1, 4098), 2, api.ErrArg}, {repeat(0, 4097), repeat(2, 4097), 2, api.ErrArg}, {repeat(0, 4097), repeat(1, 4098), 2, api.ErrArg},
		{[]int{1, 1}, []int{1, 2}, 65535, api.OK}, {[]int{1, 1}, []int{1, 2}, 65536, api.ErrBound}, {[]int{1, 1}, []int{1, 2}, 65537, api.ErrBound}, {[]int{1, 2}, []int{1, 2}, 65537, api.OK}, {repeat(1<<40-1, 4096), repeat(1, 4096), 2, api.ErrBound},
		{repeat(1, 4096), repeat(1, 4096), 2, api.OK},
	} {
		bits, c, after, e := adder.Sum(x.coef, x.l, x.next)
		if e != x.e || e != api.OK && (len(bits) > 0 || len(c) > 0 || after != 0) {
			t.Errorf("%d: %d, want %d", i, e, x.e)
		}
	}
}

func TestLeast(t *testing.T) {
	for i, x := range []struct {
		bits []int
		k    int
		want string
		e    api.Errno
	}{
		{[]int{3, 4}, 2, "[[4]]", api.OK}, {[]int{3, 4}, 1, "[[3 4]]", api.OK}, {[]int{3, 4}, 3, "[[3] [4]]", api.OK}, {[]int{3, 4}, 4, "[[]]", api.OK}, {[]int{3, 4}, 0, "[]", api.OK}, {nil, 0, "[]", api.OK}, {nil, 5, "[[] []]", api.OK},
		{[]int{0, -4, 0, 5}, 1, "[[-4 5]]", api.OK}, {[]int{7, -4, 0, 5}, 5, "[[7 -4 5] [5]]", api.OK}, {[]int{1, 2, 3, 4, 5}, 10, "[[2 3 5] [4 5]]", api.OK}, {[]int{1}, 1 << 52, "[[]]", api.OK}, {[]int{1}, 1<<52 + 1, "[]", api.ErrArg}, {[]int{1}, -1, "[]", api.ErrArg}, {[]int{1}, far, "[]", api.ErrArg}, {[]int{1}, -far - 1, "[]", api.ErrArg},
		{[]int{65536, -65536}, 1, "[[65536 -65536]]", api.OK}, {[]int{65537}, 0, "[]", api.ErrArg}, {[]int{-65537}, 0, "[]", api.ErrArg}, {[]int{1, far}, 0, "[]", api.ErrArg}, {[]int{1, -far - 1}, 0, "[]", api.ErrArg}, {repeat(0, 60), 0, "[]", api.OK}, {repeat(0, 61), 0, "[]", api.ErrBound}, {append(repeat(0, 61), 65537), 0, "[]", api.ErrArg}, {repeat(0, 61), -1, "[]", api.ErrArg},
		{append(repeat(0, 59), 9), 1, "[[9]]", api.OK}, {append(repeat(0, 52), 8), 1 << 52, "[[8]]", api.OK}, {[]int{1, 1, 1}, 1, "[[1 1 1]]", api.OK},
	} {
		if c, e := adder.Least(x.bits, x.k); fmt.Sprint(c) != x.want || e != x.e {
			t.Errorf("%d: %v, %d", i, c, e)
		}
	}
}

// byWords is the construction in the chapter's words, without its clauses.
func byWords(coef, l []int, next int) (bits []int, adders [][]int, after int) {
	queues := make([][]int, 60)
	last := -1
	for i, c := range coef {
		for pos := range 60 {
			if c>>pos&1 == 1 {
				queues[pos] = append(queues[pos], l[i])
				last = max(last, pos)
			}
		}
	}
	for pos := 0; pos <= last; pos++ {
		for len(queues[pos]) > 1 {
			n := min(3, len(queues[pos]))
			adders = append(adders, append(slices.Clone(queues[pos][:n]), next, next+1))
			queues[pos] = append(slices.Clone(queues[pos][n:]), next)
			queues[pos+1] = append(queues[pos+1], next+1)
			last = max(last, pos+1)
			next += 2
		}
		bits = append(bits, append(queues[pos], 0)[0])
	}
	return bits, adders, next
}

func TestConstruction(t *testing.T) {
	r := sample.New(1)
	for range 300 {
		var coef, l []int
		for range r.Below(8) {
			coef = append(coef, r.Below(1<<r.Below(12)+1))
			l = append(l, (1+r.Below(5))*(1-2*r.Below(2)))
		}
		old := fmt.Sprint(coef, l)
		next := 6 + r.Below(4)
		bits, c, after, e := adder.Sum(coef, l, next)
		want, adders, z := byWords(coef, l, next)
		if e != api.OK || !slices.Equal(bits, want) || after != z || fmt.Sprint(coef, l) != old {
			t.Fatal(coef, l, bits, want, after, z)
		}
		// The clauses of an adder are those of a sum of its own, with its inputs and outputs renamed.
		var all [][]int
		for _, a := range adders {
			n := len(a) - 2
			_, one, _, _ := adder.Sum(repeat(1, n), []int{1, 2, 3}[:n], n+1)
			for _, x := range one {
				var y []int
				for _, lit := range x {
					y = append(y, max(lit, -lit)/lit*a[max(lit, -lit)-1])
				}
				all = append(all, y)
			}
		}
		if !slices.EqualFunc(c, all, slices.Equal) {
			t.Fatal(coef, l, c, all)
		}
	}
}

func TestMeaning(t *testing.T) {
	for _, x := range [][][]int{
		{{1, 1}, {1, 2}}, {{1, 1, 1}, {1, -2, 3}}, {{3, 1}, {-1, 2}}, {{2, 3, 1}, {1, 2, 3}}, {{1, 1, 1, 1}, {1, 2, 3, -3}}, {{5, 3}, {1, 1}}, {{7}, {-1}}, {{1, 2, 1}, {1, 1, -1}}, {{0, 2, 2}, {1, 2, 3}},
	} {
		coef, l := x[0], x[1]
		bits, c, after, e := adder.Sum(coef, l, 4)
		if e != api.OK || after > 16 {
			t.Fatal(coef, l, after, e)
		}
		for low := range 8 {
			solutions := 0
			for high := range 1 << (after - 4) {
				a := make([]bool, after)
				for v := 1; v < after; v++ {
					a[v] = (low|high<<3)>>(v-1)&1 == 1
				}
				if !cnf.Value(api.Cnf{N: after - 1, L: c}, a) {
					continue
				}
				solutions++
				value := func(bit int) int {
					if bit != 0 && a[max(bit, -bit)] == (bit > 0) {
						return 1
					}
					return 0
				}
				sum, total := 0, 0
				for i, bit := range bits {
					sum += value(bit) << i
				}
				for i, lit := range l {
					total += coef[i] * value(lit)
				}
				if sum != total {
					t.Fatal(coef, l, a, sum, total)
				}
				for k := range 20 {
					least, e := adder.Least(bits, k)
					if cnf.Value(api.Cnf{N: after - 1, L: least}, a) != (sum >= k) || e != api.OK {
						t.Fatal(coef, l, a, sum, k, least)
					}
				}
			}
			if solutions != 1 {
				t.Fatal(coef, l, solutions)
			}
		}
	}
}

func TestMemoryIsNotShared(t *testing.T) {
	bits, c, _, _ := adder.Sum(repeat(3, 4), []int{1, 2, 3, 4}, 5)
	rest := fmt.Sprint(c[1:])
	c[0] = append(c[0], 7, 7, 7)
	c[0][0], bits[0] = 7, 7
	if fmt.Sprint(c[1:]) != rest {
		t.Error("results share memory")
	}
	b := []int{1, 2, 3}
	l, _ := adder.Least(b, 5)
	b[0], b[2] = 9, 9
	l[0] = append(l[0], 8)
	if fmt.Sprint(l) != "[[1 2 8] [3]]" {
		t.Error(l)
	}
}
