package formula

import (
	"slices"

	"chalkline/api"
)

// Nnf returns the negation normal form of a formula.
func Nnf(f api.Form) (api.Form, api.Errno) {
	if e := Check(f); e != api.OK {
		return api.Form{}, e
	}
	n := normalizer{
		dual: map[int]int{
			api.TrueF: api.FalseF, api.FalseF: api.TrueF, api.AndF: api.OrF, api.OrF: api.AndF, api.AllF: api.SomeF, api.SomeF: api.AllF,
		},
		opposite: map[string]string{"=": "!=", "!=": "=", "<": ">=", ">=": "<", "<=": ">", ">": "<="},
	}
	return n.pos(f), api.OK
}

// normalizer knows the kinds and the comparisons into which a negation turns others.
type normalizer struct {
	dual     map[int]int
	opposite map[string]string
}

// pos returns the negation normal form of f.
func (n normalizer) pos(f api.Form) api.Form {
	switch f.Kind {
	case api.NotF:
		return n.neg(f.L[0])
	case api.ImpF:
		return api.Form{Kind: api.OrF, L: []api.Form{n.neg(f.L[0]), n.pos(f.L[1])}}
	case api.LeastF, api.MostF:
		if always(f) {
			return api.Form{Kind: api.TrueF}
		}
	}
	return with(f, n.pos)
}

// neg returns the negation normal form of the negation of f.
func (n normalizer) neg(f api.Form) api.Form {
	switch f.Kind {
	case api.CmpF:
		f.Name = n.opposite[f.Name]
		return with(f, n.pos)
	case api.NotF:
		return n.pos(f.L[0])
	case api.ImpF:
		return api.Form{Kind: api.AndF, L: []api.Form{n.pos(f.L[0]), n.neg(f.L[1])}}
	case api.LeastF, api.MostF:
		return n.negCount(f)
	}
	kind, ok := n.dual[f.Kind]
	if !ok {
		return api.Form{Kind: api.NotF, L: []api.Form{with(f, n.pos)}}
	}
	f.Kind = kind
	return with(f, n.neg)
}

// negCount returns the negation normal form of the negation of a counting quantifier, whose subformula it does not negate.
func (n normalizer) negCount(f api.Form) api.Form {
	switch {
	case always(f):
		return api.Form{Kind: api.FalseF}
	case f.Kind == api.LeastF:
		f.Kind, f.N = api.MostF, f.N-1
	default:
		f.Kind, f.N = api.LeastF, f.N+1
	}
	return with(f, n.pos)
}

// always reports whether a counting quantifier is true whatever it counts. Its negation would need a number out of range.
func always(f api.Form) bool {
	return f.Kind == api.LeastF && f.N == 0 || f.Kind == api.MostF && f.N == api.MaxNum
}

// with returns f with its subformulas replaced, and in memory of its own.
func with(f api.Form, change func(api.Form) api.Form) api.Form {
	var subs []api.Form
	for _, g := range f.L {
		subs = append(subs, change(g))
	}
	f.Terms, f.Binds, f.L = slices.Clone(f.Terms), slices.Clone(f.Binds), subs
	return f
}
