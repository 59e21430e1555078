package count_test

import (
	"fmt"
	"slices"
	"testing"

	"chalkline/api"
	"chalkline/cnf"
	"chalkline/count"
	"chalkline/sample"
)

const far = 1<<63 - 1

// firsts returns the literals 1 to n.
func firsts(n int) (l []int) {
	for i := range n {
		l = append(l, i+1)
	}
	return l
}

func TestLeast(t *testing.T) {
	for i, x := range []struct {
		l       []int
		k, next int
		c       string
		after   int
	}{
		{[]int{1, 2}, 1, 3, "[[-3 1] [-4 3 2] [4]]", 5}, {[]int{1, 2}, 3, 3, "[[]]", 3}, {[]int{1, 2}, 0, 3, "[]", 3}, {[]int{1, 2}, -5, 3, "[]", 3}, {[]int{1, 2}, -far - 1, 3, "[]", 3}, {[]int{1, 2}, far, 3, "[[]]", 3}, {nil, 0, 1, "[]", 1}, {nil, 1, 65537, "[[]]", 65537},
		{[]int{-1}, 1, 9, "[[-9 -1] [9]]", 10}, {[]int{1, 2}, 2, 3, "[[-3 1] [-4 3 2] [-5 2] [-5 3] [5]]", 6},
		{[]int{3, -1, 2}, 2, 4, "[[-4 3] [-5 4 -1] [-6 -1] [-6 4] [-7 5 2] [-8 6 2] [-8 6 5] [8]]", 9},
		{[]int{3, -1, 2}, 1, 4, "[[-4 3] [-5 4 -1] [-6 5 2] [6]]", 7},
	} {
		if c, after, e := count.Least(x.l, x.k, x.next); fmt.Sprint(c) != x.c || after != x.after || e != api.OK {
			t.Errorf("%d: %v, %d, %d", i, c, after, e)
		}
	}
}

func TestMost(t *testing.T) {
	for i, x := range []struct {
		l       []int
		k, next int
		c       string
		after   int
	}{
		{[]int{1, 2}, 1, 3, "[[-3 -1] [-4 3 -2] [4]]", 5}, {[]int{1, -2}, 0, 3, "[[-3 -1] [-4 3 2] [-5 2] [-5 3] [5]]", 6}, {[]int{1, 2}, 2, 3, "[]", 3}, {[]int{1, 2}, 3, 3, "[]", 3}, {[]int{1, 2}, far, 3, "[]", 3}, {[]int{1, 2}, -1, 3, "[[]]", 3}, {[]int{1, 2}, -far - 1, 3, "[[]]", 3},
		{nil, 0, 1, "[]", 1}, {nil, -1, 1, "[[]]", 1}, {nil, 5, 1, "[]", 1},
	} {
		if c, after, e := count.Most(x.l, x.k, x.next); fmt.Sprint(c) != x.c || after != x.after || e != api.OK {
			t.Errorf("%d: %v, %d, %d", i, c, after, e)
		}
	}
}

func TestErrors(t *testing.T) {
	for i, x := range []struct {
		l       []int
		k, next int
		e       api.Errno
	}{
		{nil, 1, 0, api.ErrArg}, {nil, 1, -1, api.ErrArg}, {nil, 1, 65538, api.ErrArg}, {nil, 1, far, api.ErrArg}, {nil, 0, -far - 1, api.ErrArg}, {firsts(4096), 0, 4097, api.OK}, {firsts(4097), 0, 4098, api.ErrArg}, {append(firsts(4096), 0), 0, 4098, api.ErrArg},
		{[]int{0}, 1, 5, api.ErrLit}, {[]int{5}, 1, 5, api.ErrLit}, {[]int{-5}, 0, 5, api.ErrLit}, {[]int{4, -3}, 1, 5, api.OK}, {[]int{1}, 1, 1, api.ErrLit}, {[]int{far}, 1, 5, api.ErrLit}, {[]int{-far - 1}, 1, 5, api.ErrLit}, {[]int{1, 1}, 1, 5, api.ErrLit}, {[]int{1, -1}, 1, 5, api.ErrLit}, {[]int{-1, 2, 1}, 9, 5, api.ErrLit}, {[]int{-1, 2, -1}, -9, 5, api.ErrLit}, {[]int{0}, 1, 0, api.ErrArg},
	} {
		if c, after, e := count.Least(x.l, x.k, x.next); e != x.e || e != api.OK && (len(c) > 0 || after != 0) {
			t.Errorf("%d: %v, %d, %d, want %d", i, c, after, e, x.e)
		}
		if c, after, e := count.Most(x.l, len(x.l)-x.k, x.next); e != x.e || e != api.OK && (len(c) > 0 || after != 0) {
			t.Errorf("%d: Most gives %v, %d, %d, want %d", i, c, after, e, x.e)
		}
	}
	// For n literals of which k are to be true there are k(k+1)/2 + (n-k)k registers, and n - 1 fewer clauses than twice that.
	for i, x := range []struct {
		n, k, next int
		e          api.Errno
	}{
		{2, 1, 65535, api.OK}, {2, 1, 65536, api.ErrBound}, {2, 2, 65534, api.OK}, {2, 2, 65535, api.ErrBound}, {3, 2, 65532, api.OK}, {3, 2, 65533, api.ErrBound}, {4096, 1, 61441, api.OK}, {4096, 1, 61442, api.ErrBound},
		{4096, 8, 4097, api.OK}, {4096, 9, 4097, api.ErrBound}, {4096, 4096, 4097, api.ErrBound},
		// 256 literals, all true: 32896 registers and 65537 clauses; 255: 32640 and 65026.
		{256, 256, 257, api.ErrBound}, {255, 255, 256, api.OK}, {256, 255, 257, api.OK}, {257, 257, 258, api.ErrBound}, {257, 250, 258, api.ErrBound}, {257, 230, 258, api.OK},
	} {
		c, after, e := count.Least(firsts(x.n), x.k, x.next)
		if e != x.e || e != api.OK && (len(c) > 0 || after != 0) || len(c) > 65536 {
			t.Errorf("%d: %d clauses, %d, %d, want %d", i, len(c), after, e, x.e)
		}
		m, later, e := count.Most(firsts(x.n), x.n-x.k, x.next)
		if e != x.e || len(m) != len(c) || later != after {
			t.Errorf("%d: Most gives %d clauses, %d, %d", i, len(m), later, e)
		}
	}
}

func TestTheGreatestNumberOfClauses(t *testing.T) {
	seen := map[int]int{}
	for n := 256; n < 4096; n++ {
		for k := 1; k <= n; k++ {
			registers := k*(k+1)/2 + (n-k)*k
			clauses := 2*registers - n + 1
			if clauses < 65535 || clauses > 65537 || seen[clauses] > 2 {
				continue
			}
			seen[clauses]++
			c, after, e := count.Least(firsts(n), k, n+1)
			if clauses <= 65536 && (len(c) != clauses || after != n+1+registers || e != api.OK) || clauses > 65536 && e != api.ErrBound {
				t.Error(n, k, clauses, len(c), e)
			}
		}
	}
	if seen[65535] == 0 || seen[65537] == 0 {
		t.Error(seen)
	}
}

// byWords is the counter in the chapter's words.
func byWords(l []int, k, next int) (c [][]int, after int) {
	r := map[[2]int]int{}
	var order [][2]int
	for i := 1; i <= len(l); i++ {
		for j := 1; j <= min(i, k); j++ {
			r[[2]int{i, j}] = next
			order = append(order, [2]int{i, j})
			next++
		}
	}
	for _, x := range order {
		i, j := x[0], x[1]
		clause := []int{-r[x]}
		if up := r[[2]int{i - 1, j}]; up != 0 {
			clause = append(clause, up)
		}
		c = append(c, append(slices.Clone(clause), l[i-1]))
		if j >= 2 {
			c = append(c, append(slices.Clone(clause), r[[2]int{i - 1, j - 1}]))
		}
	}
	return append(c, []int{r[[2]int{len(l), k}]}), next
}

func TestConstruction(t *testing.T) {
	r := sample.New(1)
	for range 500 {
		var l, not []int
		for i := range 1 + r.Below(12) {
			l = append(l, (i+1)*(1-2*r.Below(2)))
			not = append(not, -l[i])
		}
		k, next := 1+r.Below(len(l)), len(l)+1+r.Below(9)
		old := slices.Clone(l)
		want, z := byWords(l, k, next)
		if c, after, e := count.Least(l, k, next); e != api.OK || !slices.EqualFunc(c, want, slices.Equal) || after != z {
			t.Fatal(l, k, next, c, after, e)
		}
		if c, after, e := count.Most(not, len(l)-k, next); e != api.OK || !slices.EqualFunc(c, want, slices.Equal) || after != z {
			t.Fatal("Most", l, k, next, c, after, e)
		}
		if !slices.Equal(l, old) {
			t.Fatal("an argument was changed")
		}
	}
}

// conflict reports whether unit propagation from the assignment derives a conflict.
func conflict(c [][]int, a map[int]bool) bool {
	for again := true; again; {
		again = false
		for _, l := range c {
			open, sat := []int{}, false
			for _, lit := range l {
				sat = sat || a[lit]
				if !a[-lit] {
					open = append(open, lit)
				}
			}
			if sat {
				continue
			}
			if len(open) == 0 {
				return true
			}
			if len(open) == 1 {
				a[open[0]], again = true, true
			}
		}
	}
	return false
}

func TestMeaning(t *testing.T) {
	for n := range 5 {
		for k := -1; k <= n+1; k++ {
			l := firsts(n)
			for i := range l {
				if i%2 == 1 {
					l[i] = -l[i]
				}
			}
			least, after, e := count.Least(l, k, n+1)
			most, later, e2 := count.Most(l, k, n+1)
			if e != api.OK || e2 != api.OK {
				t.Fatal(e, e2)
			}
			for bits := range 1 << n {
				a, trues, lits := make([]bool, n+1), 0, map[int]bool{}
				for i := range n {
					a[i+1] = bits>>i&1 == 1
					if lits[(i+1)*(2*(bits>>i&1)-1)] = true; a[i+1] == (l[i] > 0) {
						trues++
					}
				}
				if satisfiable(least, a, n+1, after) != (trues >= k) || satisfiable(most, a, n+1, later) != (trues <= k) {
					t.Fatal(l, k, a)
				}
				// Every assignment that breaks the constraint is refuted by unit propagation alone.
				if trues < k && !conflict(least, lits) {
					t.Fatal("no conflict", l, k, a)
				}
			}
		}
	}
}

// satisfiable reports whether a can be extended to the variables from next to after - 1.
func satisfiable(c [][]int, a []bool, next, after int) bool {
	for bits := range 1 << (after - next) {
		b := append(slices.Clone(a[:next]), make([]bool, after-next)...)
		for k := range after - next {
			b[next+k] = bits>>k&1 == 1
		}
		if cnf.Value(api.Cnf{N: after - 1, L: c}, b) {
			return true
		}
	}
	return false
}

func TestMemoryIsNotShared(t *testing.T) {
	c, _, _ := count.Least(firsts(4), 3, 5)
	rest := fmt.Sprint(c[1:])
	c[0] = append(c[0], 7, 7, 7)
	c[0][0] = 7
	if fmt.Sprint(c[1:]) != rest {
		t.Error("clauses share memory")
	}
}
