package planner_test

import (
	"strings"
	"testing"

	"chalkline/api"
	"chalkline/planner"
	"chalkline/sample"
)

// asked is a planner whose two lessons must not be at slot 0, nor at the same slot.
func asked(t *testing.T, more string) api.Planner {
	p, _ := planner.New(1)
	return after(t, p, set(hours(sample.Plain(2, 2, 1, 0, 0)), clash+"hard later each l: lesson, s: slot: at(l, s) -> hour(s) > 0;"+more))
}

func what(lesson, slot string, budget int) api.Do {
	return api.Do{Kind: api.WhatDo, Name: lesson, Slot: slot, N: budget}
}

// wordy is a planner with a rule whose sentence is too long for a text: it has 127 atoms with two names of 64 bytes.
func wordy(t *testing.T) api.Planner {
	s := sample.Plain(1, 1, 1, 0, 0)
	s.Lessons[0].Name, s.Slots[0].Name = strings.Repeat("l", 64), strings.Repeat("s", 64)
	formula := "at(l, s)"
	for range 7 {
		formula = "(" + formula + ") & (" + formula + ")"
	}
	formula = strings.Replace(formula, "at(l, s)", "false", 1)
	p, _ := planner.New(1)
	return after(t, p, set(s, "hard wordy each l: lesson, s: slot: "+formula+";"))
}

func TestWhyDo(t *testing.T) {
	empty, _ := planner.New(1)
	fails(t, "no plan", empty, of(api.WhyDo, -1), api.ErrState)
	fails(t, "budget -1", done(t), of(api.WhyDo, -1), api.ErrArg)
	fails(t, "budget too great", pending(t), of(api.WhyDo, most+1), api.ErrArg)
	fails(t, "too many instances", after(t, empty, set(sample.Plain(5, 1, 1, 0, 0), many)), of(api.WhyDo, -1), api.ErrBound)

	p := second(t)
	want := p
	found := api.Why{Kind: api.YesA, Fixes: [][]int{{}}}
	want.Events = append(want.Events[:1:1], api.Event{Kind: api.WhyE, Plan: p.Plan, Told: api.Told{Kind: api.YesA}, Why: found})
	does(t, "feasible", p, of(api.WhyDo, enough), want, api.Told{Kind: api.YesA, Lines: []string{"without these there is a week:", "that is all"}})

	p = asked(t, "")
	found = api.Why{Kind: api.YesA, Cores: [][]int{{1, 2, 4}}, Fixes: [][]int{{1}, {2}, {4}}}
	lines := `these can't be together:
hard clash:
  clash (s = s1): most 1 l: lesson (at(l, s1))
hard later:
  later (l = l0, s = s0): at(l0, s0) -> hour(s0) > 0
  later (l = l1, s = s0): at(l1, s0) -> hour(s0) > 0
without these there is a week:
hard clash:
  clash (s = s1): most 1 l: lesson (at(l, s1))
without these there is a week:
hard later:
  later (l = l0, s = s0): at(l0, s0) -> hour(s0) > 0
without these there is a week:
hard later:
  later (l = l1, s = s0): at(l1, s0) -> hour(s0) > 0
that is all`
	does(t, "one core", p, of(api.WhyDo, enough), with(p, api.Event{Kind: api.WhyE, Plan: p.Plan, Told: api.Told{Kind: api.YesA}, Why: found}), api.Told{Kind: api.YesA, N: 1, Lines: strings.Split(lines, "\n")})
}

func TestWhatDoErrors(t *testing.T) {
	empty, _ := planner.New(1)
	large := after(t, empty, set(sample.Plain(5, 1, 1, 0, 0), many))
	fails(t, "no plan", empty, what("l0", "s0", -1), api.ErrState)
	fails(t, "no lesson", asked(t, ""), what("s0", "s0", -1), api.ErrName)
	fails(t, "no slot", asked(t, ""), what("l0", "l0", -1), api.ErrName)
	fails(t, "no name", large, what("l0", "", -1), api.ErrName)
	fails(t, "neither", large, what("", "s0", -1), api.ErrName)
	fails(t, "too many instances", large, what("l0", "s0", -1), api.ErrBound)
	fails(t, "budget -1", asked(t, ""), what("l0", "s0", -1), api.ErrArg)
	fails(t, "budget too great", pending(t), what("l0", "s0", most+1), api.ErrArg)
}

func TestWhatDo(t *testing.T) {
	p := second(t)
	want := p
	want.Events = append(want.Events[:1:1], api.Event{Kind: api.WhatE, Plan: p.Plan, Told: api.Told{Kind: api.YesA, Week: sample.Week(1, 0)}, Fix: 2})
	does(t, "yes", p, what("l0", "s1", enough), want, api.Told{Kind: api.YesA, Week: sample.Week(1, 0)})

	p = asked(t, "")
	lines := []string{"hard later:", "  later (l = l1, s = s0): at(l1, s0) -> hour(s0) > 0"}
	want = with(p, api.Event{Kind: api.WhatE, Plan: p.Plan, Told: api.Told{Kind: api.NoA}, Fix: 3})
	does(t, "no", p, what("l1", "s0", enough), want, api.Told{Kind: api.NoA, N: 1, Lines: lines})

	out := api.Told{Kind: api.OutA}
	q, told := planner.Do(crowded(t), what("l0", "s0", 0))
	if told.E != api.OK || told.Kind != out.Kind || len(told.Week.L) > 0 {
		t.Error(told)
	}
	if x := q.Events[len(q.Events)-1]; show(x) != show(api.Event{Kind: api.WhatE, Plan: q.Plan, Told: out, Fix: 1}) {
		t.Error(x)
	}
}

// crowded is a planner with more lessons than slots.
func crowded(t *testing.T) api.Planner {
	p, _ := planner.New(1)
	return after(t, p, set(hours(sample.Plain(6, 5, 1, 0, 0)), clash))
}

func TestWhyOutOfBudget(t *testing.T) {
	p := crowded(t)
	q, told := planner.Do(p, of(api.WhyDo, 0))
	if told.E != api.OK || told.Kind != api.OutA || told.N != 0 || told.Lines[len(told.Lines)-1] != "there may be more" {
		t.Error(told)
	}
	x := q.Events[len(q.Events)-1]
	if x.Kind != api.WhyE || x.Why.Kind != api.OutA || show(x.Told) != show(api.Told{Kind: api.OutA}) {
		t.Error(x)
	}
}

func TestWordyRules(t *testing.T) {
	p := wordy(t)
	fails(t, "why", p, of(api.WhyDo, enough), api.ErrBound)
	fails(t, "what", p, what(p.Plan.School.Lessons[0].Name, p.Plan.School.Slots[0].Name, enough), api.ErrBound)
}

// Its rules have instances, but its clauses are too many.
func TestGreatSchools(t *testing.T) {
	p, _ := planner.New(0)
	p = after(t, p, set(sample.Plain(64, 50, 32, 0, 0), never))
	fails(t, "solve", p, of(api.SolveDo, enough), api.ErrBound)
	fails(t, "why", p, of(api.WhyDo, enough), api.ErrBound)
	fails(t, "what", p, what("l0", "s0", enough), api.ErrBound)
}
