package cnf

import (
	"iter"
	"strconv"
	"strings"

	"chalkline/api"
)

const (
	maxText   = 1 << 22 // bytes of a text that is read
	maxDigits = 10      // digits of a number that is read
)

// Put writes a formula in DIMACS format.
func Put(c api.Cnf) ([]byte, api.Errno) {
	if e := Check(c); e != api.OK {
		return nil, e
	}
	b := strconv.AppendInt([]byte("p cnf "), int64(c.N), 10)
	b = strconv.AppendInt(append(b, ' '), int64(len(c.L)), 10)
	b = append(b, '\n')
	for _, l := range c.L {
		for _, lit := range l {
			b = append(strconv.AppendInt(b, int64(lit), 10), ' ')
		}
		b = append(b, "0\n"...)
	}
	return b, api.OK
}

// Get parses a formula in DIMACS format.
func Get(b []byte) (api.Cnf, api.Errno) {
	if len(b) > maxText {
		return api.Cnf{}, api.ErrBound
	}
	nums, ok := numbers(string(b))
	if !ok {
		return api.Cnf{}, api.ErrForm
	}
	n, count := nums[0], nums[1]
	if n > api.MaxVars || count > maxClauses {
		return api.Cnf{}, api.ErrBound
	}
	l, ok := clauses(nums[2:])
	if !ok || len(l) != count {
		return api.Cnf{}, api.ErrForm
	}
	c := api.Cnf{N: n, L: l}
	if e := Check(c); e != api.OK {
		return api.Cnf{}, e
	}
	return c, api.OK
}

// numbers returns the numbers that follow the words p and cnf: two without a sign and any others.
func numbers(text string) (l []int, ok bool) {
	start := [...]string{"p", "cnf"}
	seen := 0
	for w := range words(text) {
		if seen < len(start) {
			if w != start[seen] {
				return nil, false
			}
			seen++
			continue
		}
		n, ok := number(w)
		if !ok || n < 0 && len(l) < 2 {
			return nil, false
		}
		l = append(l, n)
	}
	return l, len(l) >= 2
}

// words yields the words of all lines that are no comments.
func words(text string) iter.Seq[string] {
	return func(yield func(string) bool) {
		for line := range strings.SplitSeq(text, "\n") {
			if strings.HasPrefix(line, "c") {
				continue
			}
			for w := range strings.FieldsFuncSeq(line, func(r rune) bool { return r == ' ' || r == '\t' || r == '\r' }) {
				if !yield(w) {
					return
				}
			}
		}
	}
}

// number reads a number in its only spelling.
func number(w string) (int, bool) {
	n, err := strconv.Atoi(w)
	digits := strings.TrimPrefix(w, "-")
	// What strconv accepts besides has a plus sign, a superfluous zero or a negative zero.
	return n, err == nil && strconv.Itoa(n) == w && len(digits) <= maxDigits
}

// clauses splits numbers behind each 0, and reports whether the last one is a 0.
func clauses(nums []int) (l [][]int, ok bool) {
	var clause []int
	open := false
	for _, n := range nums {
		if open = n != 0; open {
			clause = append(clause, n)
			continue
		}
		l, clause = append(l, clause), nil
	}
	return l, !open
}
