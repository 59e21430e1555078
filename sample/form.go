package sample

import (
	"slices"
	"strconv"

	"chalkline/api"
)

// Rules returns n rules with up to two variables each, and bodies of at most the given depth.
func (r *Source) Rules(n, depth int) []api.Rule {
	var l []api.Rule
	for i := range n {
		x := api.Rule{Name: "n" + strconv.Itoa(i), Hard: r.Chance(2)}
		if !x.Hard {
			x.Weight = 1 + r.Below(9)
		}
		for k := range r.Below(3) {
			x.Each = append(x.Each, r.bind(k))
		}
		x.Body = r.Form(x.Each, depth)
		l = append(l, x)
	}
	return l
}

// bind returns a bind of variable number k; lessons, slots and rooms are more common than the other sorts.
func (r *Source) bind(k int) api.Bind {
	return api.Bind{Name: "v" + strconv.Itoa(k), Sort: 1 + r.Below(3+4*r.Below(2))}
}

// Form returns a formula of at most the given depth that is well-typed in a scope whose variables are v0, v1 and so on.
func (r *Source) Form(scope []api.Bind, depth int) api.Form {
	switch {
	case depth > 1 && len(scope) < 6 && (len(scope) == 0 || r.Chance(3)):
		return r.quantifier(scope, depth)
	case depth > 1 && r.Chance(2):
		f := api.Form{Kind: api.NotF + r.Below(4)}
		f.L = append(f.L, r.Form(scope, depth-1))
		if f.Kind != api.NotF {
			f.L = append(f.L, r.Form(scope, depth-1))
		}
		return f
	}
	for range 20 {
		if f, ok := r.atom(scope); ok {
			return f
		}
	}
	return api.Form{Kind: api.TrueF + r.Below(2)}
}

// quantifier returns a quantifier over one or two variables.
func (r *Source) quantifier(scope []api.Bind, depth int) api.Form {
	f := api.Form{Kind: api.AllF + r.Below(4)}
	inner := slices.Clone(scope)
	for range 1 + r.Below(2) {
		b := r.bind(len(inner))
		f.Binds, inner = append(f.Binds, b), append(inner, b)
	}
	if f.Kind >= api.LeastF {
		f.N = r.Below(6)
	}
	f.L = []api.Form{r.Form(inner, depth-1)}
	return f
}

// atom returns an atom, if scope has the variables for the kind that it chose.
func (r *Source) atom(scope []api.Bind) (api.Form, bool) {
	sorts := [...][2]int{
		{api.LessonS, api.SlotS}, {api.LessonS, api.RoomS}, {api.PersonS, api.LessonS}, {api.GroupS, api.LessonS}, {api.PersonS, api.SlotS}, {api.RoomS, api.SlotS},
	}
	k := r.Below(len(sorts) + 3)
	if k < len(sorts) {
		a, ok := r.variable(scope, sorts[k][0])
		b, fine := r.variable(scope, sorts[k][1])
		return api.Form{Kind: api.AtF + k, Terms: []api.Term{a, b}}, ok && fine
	}
	sort := 1 + r.Below(api.NumS)
	a, ok := r.term(scope, sort)
	b, fine := r.term(scope, sort)
	ops := []string{"=", "!=", "<", "<=", ">", ">="}
	if sort != api.NumS && sort != api.SlotS && sort != api.DayS {
		ops = ops[:2]
	}
	return api.Form{Kind: api.CmpF, Name: ops[r.Below(len(ops))], Terms: []api.Term{a, b}}, ok && fine
}

// term returns a term of a sort.
func (r *Source) term(scope []api.Bind, sort int) (api.Term, bool) {
	kinds := map[int][][2]int{
		api.NumS:   {{api.NumT, 0}, {api.HourT, api.SlotS}, {api.SeatsT, api.RoomS}, {api.SizeT, api.LessonS}},
		api.DayS:   {{api.DayT, api.SlotS}, {api.VarT, api.DayS}},
		api.HouseS: {{api.HouseT, api.RoomS}, {api.VarT, api.HouseS}},
	}[sort]
	if kinds == nil {
		return r.variable(scope, sort)
	}
	k := kinds[r.Below(len(kinds))]
	if k[0] == api.NumT {
		return api.Term{Kind: api.NumT, N: r.Below(25)}, true
	}
	t, ok := r.variable(scope, k[1])
	t.Kind = k[0]
	return t, ok
}

// variable returns one of the variables of a sort.
func (r *Source) variable(scope []api.Bind, sort int) (api.Term, bool) {
	var l []string
	for _, b := range scope {
		if b.Sort == sort {
			l = append(l, b.Name)
		}
	}
	if len(l) == 0 {
		return api.Term{}, false
	}
	return api.Term{Kind: api.VarT, Name: l[r.Below(len(l))]}, true
}
