package audit

import (
	"slices"

	"chalkline/api"
	"chalkline/week"
)

// Event checks an event.
func Event(e api.Event) bool {
	check := checks()[e.Kind]
	return check != nil && check(e)
}

// checks returns the check of every kind of event.
func checks() map[int]func(api.Event) bool {
	accept := func(api.Event) bool { return true }
	return map[int]func(api.Event) bool{
		api.PublishedE: published,
		api.RefusedE:   func(e api.Event) bool { return None(e.Plan, e.Old) },
		api.WhyE:       func(e api.Event) bool { return Why(e.Plan, e.Why) },
		api.WhatE:      answered,
		api.ShownE:     accept,
		api.OutE:       accept,
	}
}

// published reports whether a week could be published as it was.
func published(e api.Event) bool {
	ok, cost := Holds(e.Plan, e.V.Week)
	return ok && cost == e.V.Cost && respects(e.Plan, e.Old, e.V.Week) && (!e.V.Best || Best(e.Plan, e.Old, e.V.Week))
}

// answered reports whether the answer to a what-if question is right.
func answered(e api.Event) bool {
	switch e.Told.Kind {
	case api.YesA:
		ok, _ := Holds(e.Plan, e.Told.Week)
		return ok && isTrue(e.Plan.School, e.Told.Week, e.Fix)
	case api.NoA:
		for w := range feasible(e.Plan) {
			if isTrue(e.Plan.School, w, e.Fix) {
				return false
			}
		}
		return true
	}
	return e.Told.Kind == api.OutA
}

// isTrue reports whether a literal is true in a week. A literal of a variable that says nothing about weeks is not.
func isTrue(s api.School, w api.Week, literal int) bool {
	told, _ := week.True(s, w)
	variable := max(literal, -literal)
	return variable >= 1 && variable < len(told) && told[variable] == (literal > 0)
}

// Shown reports whether clients have shown published versions only, with increasing numbers.
func Shown(p api.Planner) bool {
	var known []api.Version
	last := map[int]api.Version{}
	for _, e := range p.Events {
		switch e.Kind {
		case api.PublishedE:
			known = append(known, e.V)
		case api.ShownE:
			before, again := last[e.Client]
			if again && e.V.No <= before.No || !slices.ContainsFunc(known, func(v api.Version) bool { return same(v, e.V) }) {
				return false
			}
			last[e.Client] = e.V
		}
	}
	for at, c := range p.Clients {
		v, shown := last[at]
		if c.No != v.No || shown && !slices.Equal(c.Week.L, v.Week.L) {
			return false
		}
	}
	return true
}

// same reports whether two versions are equal.
func same(a, b api.Version) bool {
	return a.No == b.No && slices.Equal(a.Week.L, b.Week.L) && a.Cost == b.Cost && a.Best == b.Best
}
