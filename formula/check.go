package formula

import (
	"chalkline/api"
	"chalkline/name"
)

// Check validates a formula.
func Check(f api.Form) api.Errno {
	size, deepest := 0, 0
	for depth, g := range nodes(f) {
		if !formed(g) {
			return api.ErrArg
		}
		size, deepest = size+1, max(deepest, depth)
	}
	if size > api.MaxForm || deepest > api.MaxDepth {
		return api.ErrBound
	}
	return api.OK
}

// formed reports whether the fields of a formula are those of its kind, whatever its subformulas are.
func formed(f api.Form) bool {
	switch f.Kind {
	case api.TrueF, api.FalseF:
		return uses(f, 0, 0, false) && f.Name == "" && f.N == 0
	case api.AtF, api.InF, api.TeachesF, api.AttendsF, api.AwayF, api.ShutF:
		return uses(f, 2, 0, false) && f.Name == "" && f.N == 0 && f.Terms[0].Kind == api.VarT && f.Terms[1].Kind == api.VarT
	case api.CmpF:
		return uses(f, 2, 0, false) && operator(f.Name) && f.N == 0
	case api.NotF:
		return uses(f, 0, 1, false) && f.Name == "" && f.N == 0
	case api.AndF, api.OrF, api.ImpF:
		return uses(f, 0, 2, false) && f.Name == "" && f.N == 0
	case api.AllF, api.SomeF:
		return uses(f, 0, 1, true) && f.Name == "" && f.N == 0
	case api.LeastF, api.MostF:
		return uses(f, 0, 1, true) && f.Name == "" && number(f.N)
	}
	return false
}

// uses reports whether f has that many terms, all well-formed, that many subformulas, and binds if and only if it may.
func uses(f api.Form, terms, subs int, binds bool) bool {
	if len(f.Terms) != terms || len(f.L) != subs || len(f.Binds) > api.MaxBinds || (len(f.Binds) > 0) != binds {
		return false
	}
	for _, t := range f.Terms {
		if !termFormed(t) {
			return false
		}
	}
	for _, b := range f.Binds {
		if !name.Is(b.Name) || b.Sort < api.LessonS || b.Sort > api.HouseS {
			return false
		}
	}
	return true
}

// termFormed reports whether a term is well-formed.
func termFormed(t api.Term) bool {
	if t.Kind == api.NumT {
		return t.Name == "" && number(t.N)
	}
	return t.Kind >= api.VarT && t.Kind <= api.SizeT && name.Is(t.Name) && t.N == 0
}

// operator reports whether s is the sign of a comparison.
func operator(s string) bool {
	switch s {
	case "=", "!=", "<", "<=", ">", ">=":
		return true
	}
	return false
}

// number reports whether n is from 0 to MaxNum.
func number(n int) bool {
	return n >= 0 && n <= api.MaxNum
}
