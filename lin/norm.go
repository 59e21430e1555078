package lin

import (
	"slices"

	"chalkline/api"
)

// Norm returns the canonical form of l.
func Norm(l api.Lin) api.Lin {
	if Check(l, api.MaxVars) != api.OK {
		return api.Lin{}
	}
	sums := fold(l, map[int]int{}, func(sums map[int]int, c, lit int) map[int]int {
		sums[lit] += c
		return sums
	})
	var vars []int
	for lit := range sums {
		vars = append(vars, max(lit, -lit))
	}
	slices.Sort(vars)
	b := builder{api.Lin{Least: l.Least}}
	for _, v := range slices.Compact(vars) {
		b.variable(v, sums[v], sums[-v])
	}
	b.saturate()
	return b.Lin
}

// builder is a constraint in the making.
type builder struct {
	api.Lin
}

// variable adds p times v and q times its negation, as one term with a positive coefficient.
func (b *builder) variable(v, p, q int) {
	// One of the two literals is true, whichever it is.
	b.Least -= min(p, q)
	switch {
	case p > q:
		b.term(p-q, v)
	case q > p:
		b.term(q-p, -v)
	}
}

// term adds a term.
func (b *builder) term(c, lit int) {
	b.C, b.L = append(b.C, c), append(b.L, lit)
}

// saturate replaces a constraint that always or never holds by one without terms, and otherwise reduces the coefficients to the bound.
func (b *builder) saturate() {
	sum := fold(b.Lin, 0, func(sum, c, _ int) int { return sum + c })
	switch {
	case b.Least <= 0:
		b.Lin = api.Lin{}
	case sum < b.Least:
		b.Lin = api.Lin{Least: 1}
	default:
		b.each(func(n int) int { return min(n, b.Least) })
	}
}

// each replaces all coefficients and the bound by what change gives for them; the bound comes last.
func (b *builder) each(change func(int) int) {
	for i, c := range b.C {
		b.C[i] = change(c)
	}
	b.Least = change(b.Least)
}
