package planner

import (
	"slices"

	"chalkline/api"
	"chalkline/edit"
	"chalkline/feed"
	"chalkline/journal"
	"chalkline/week"
)

// Check reports whether a planner is valid.
func Check(p api.Planner) api.Errno {
	for _, valid := range []func(api.Planner) bool{validPlan, validVersions, validClients, validDraft} {
		if !valid(p) {
			return api.ErrArg
		}
	}
	return api.OK
}

// validPlan reports whether a planner has a valid plan, or none at all.
func validPlan(p api.Planner) bool {
	return noPlan(p.Plan) || edit.Check(p.Plan) == api.OK
}

// noPlan reports whether all lists of a plan are empty.
func noPlan(p api.Plan) bool {
	s := p.School
	return len(s.Slots)+len(s.Rooms)+len(s.People)+len(s.Groups)+len(s.Lessons)+len(p.Rules)+len(p.Frozen) == 0
}

// validVersions reports whether the versions are those on the disk, and the one that waits is not synced.
func validVersions(p api.Planner) bool {
	if feed.Check(p.Versions) != api.OK || len(p.Wait) > 1 {
		return false
	}
	var wait []api.Version
	for _, x := range p.Wait {
		if x.Kind != api.PublishedE {
			return false
		}
		wait = append(wait, x.V)
	}
	safe, open, e := journal.Read(p.Disk)
	return e == api.OK && slices.EqualFunc(safe, p.Versions, sameVersion) && slices.EqualFunc(open, wait, sameVersion)
}

// sameVersion reports whether two versions are equal.
func sameVersion(a, b api.Version) bool {
	return a.No == b.No && slices.Equal(a.Week.L, b.Week.L) && a.Cost == b.Cost && a.Best == b.Best
}

// validClients reports whether the clients show numbers that versions may have.
func validClients(p api.Planner) bool {
	return len(p.Clients) <= api.MaxClients && !slices.ContainsFunc(p.Clients, func(c api.Client) bool {
		return c.No < 0 || c.No > api.MaxNum
	})
}

// validDraft reports whether there is a draft that may be published, or none.
func validDraft(p api.Planner) bool {
	d := p.Draft
	if !p.Ready {
		return d.Kind == 0 && !d.Some && len(d.Week.L) == 0 && d.Cost == 0 && d.Moves == 0 && d.Spent == 0
	}
	return hasPlan(p) && len(p.Wait) == 0 && hasWeek(d) && week.Check(p.Plan.School, d.Week) == api.OK
}

// hasPlan reports whether a planner has a plan.
func hasPlan(p api.Planner) bool { return len(p.Plan.School.Slots) > 0 }

// hasWeek reports whether a search found a week that satisfies the hard rules.
func hasWeek(r api.Repaired) bool {
	return r.Kind == api.YesA || r.Kind == api.OutA && r.Some
}
