package planner

import (
	"chalkline/api"
	"chalkline/ground"
	"chalkline/school"
	"chalkline/tell"
	"chalkline/week"
	"chalkline/why"
)

// why explains why there is no week.
func (w *work) why(d api.Do) api.Told {
	require(hasPlan(w.Planner), api.ErrState)
	s, rules := w.Plan.School, w.Plan.Rules
	found, e := why.Why(s, rules, d.N)
	check(e)
	all, e := ground.All(s, rules)
	check(e)
	lines, e := tell.Why(s, rules, all, found)
	check(e)
	w.record(api.Event{Kind: api.WhyE, Plan: w.Plan, Told: api.Told{Kind: found.Kind}, Why: found})
	return api.Told{Kind: found.Kind, N: len(found.Cores), Lines: lines}
}

// what tells whether a lesson may take place at a slot.
func (w *work) what(d api.Do) api.Told {
	require(hasPlan(w.Planner), api.ErrState)
	s, rules := w.Plan.School, w.Plan.Rules
	lesson, known := school.Find(s, api.LessonS, d.Name)
	require(known, api.ErrName)
	slot, known := school.Find(s, api.SlotS, d.Slot)
	require(known, api.ErrName)
	fix := week.At(s, lesson, slot)
	kind, found, core, e := why.What(s, rules, []int{fix}, d.N)
	check(e)
	all, e := ground.All(s, rules)
	check(e)
	lines, e := tell.Insts(s, rules, chosen(all, core))
	check(e)
	w.record(api.Event{Kind: api.WhatE, Plan: w.Plan, Told: api.Told{Kind: kind, Week: found}, Fix: fix})
	return api.Told{Kind: kind, N: len(core), Week: found, Lines: lines}
}

// chosen returns the instances with the given indices. It fails if one is not the index of an instance.
func chosen(all []api.Inst, indices []int) []api.Inst {
	var l []api.Inst
	for _, i := range indices {
		require(i >= 0 && i < len(all), api.ErrArg)
		l = append(l, all[i])
	}
	return l
}
