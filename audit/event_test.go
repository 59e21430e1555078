package audit_test

import (
	"fmt"
	"slices"
	"testing"

	"chalkline/api"
	"chalkline/audit"
	"chalkline/eval"
	"chalkline/planner"
	"chalkline/sample"
	"chalkline/week"
	"chalkline/why"
)

// says checks what Event reports.
func says(t *testing.T, name string, e api.Event, want bool) {
	t.Helper()
	if got := audit.Event(e); got != want {
		t.Errorf("%s: %t: %s", name, got, show(e))
	}
}

func TestKindsOfEvents(t *testing.T) {
	for _, kind := range []int{0, 7, -1, far, -far - 1} {
		says(t, "unknown", api.Event{Kind: kind, Plan: plan(day(1, 1, 1), "")}, false)
	}
	for _, kind := range []int{api.ShownE, api.OutE} {
		says(t, "nothing", api.Event{Kind: kind}, true)
		says(t, "anything", api.Event{Kind: kind, Fix: far, Client: -1, V: api.Version{No: -1}, Told: api.Told{Kind: 9}}, true)
	}
	says(t, "no publication", api.Event{Kind: api.PublishedE}, false)
	says(t, "a refusal of nothing", api.Event{Kind: api.RefusedE}, true)
	says(t, "no explanation", api.Event{Kind: api.WhyE}, false)
	says(t, "no answer", api.Event{Kind: api.WhatE}, false)
}

func TestPublished(t *testing.T) {
	p := plan(day(2, 2, 1), clash+early, 1)
	a, b, bad := sample.Week(0, 0, 1, 0), sample.Week(1, 0, 0, 0), sample.Week(0, 0, 0, 0)
	published := func(p api.Plan, old, w api.Week, cost int, best bool) api.Event {
		return api.Event{Kind: api.PublishedE, Plan: p, Old: old, V: api.Version{No: 9, Week: w, Cost: cost, Best: best}}
	}
	says(t, "first", published(p, api.Week{}, b, 3, true), true)
	says(t, "not moved", published(p, a, a, 3, true), true)
	says(t, "frozen moved", published(p, a, b, 3, false), false)
	says(t, "cost too small", published(p, a, a, 2, false), false)
	says(t, "cost too great", published(p, a, a, 4, false), false)
	says(t, "not feasible", published(p, bad, bad, 0, false), false)
	says(t, "not a week", published(p, a, sample.Week(0, 0), 3, false), false)
	p.Frozen = nil
	says(t, "more moves than needed", published(p, a, b, 3, true), false)
	says(t, "more moves, but not best", published(p, a, b, 3, false), true)
	p = plan(day(1, 2, 1), early)
	says(t, "dear", published(p, api.Week{}, sample.Week(1, 0), 3, true), false)
	says(t, "dear, but not best", published(p, api.Week{}, sample.Week(1, 0), 3, false), true)
	says(t, "too many weeks to try", published(plan(day(7, 4, 1), ""), api.Week{}, sample.Zero(day(7, 4, 1)), 0, true), true)
}

func TestRefused(t *testing.T) {
	p := plan(day(1, 2, 1), first, 0)
	refused := func(old api.Week) api.Event { return api.Event{Kind: api.RefusedE, Plan: p, Old: old} }
	says(t, "frozen at the wrong slot", refused(sample.Week(1, 0)), true)
	says(t, "frozen at the right slot", refused(sample.Week(0, 0)), false)
	says(t, "no old week", refused(api.Week{}), false)
	says(t, "not an old week", refused(sample.Week(2, 0)), false)
	p.Rules = sample.Rules("hard never: false;")
	says(t, "never", refused(sample.Week(0, 0)), true)
}

func TestExplained(t *testing.T) {
	p := plan(day(2, 2, 1), clash+first)
	y, _ := why.Why(p.School, p.Rules, enough)
	says(t, "right", api.Event{Kind: api.WhyE, Plan: p, Why: y}, true)
	says(t, "right, whatever is told", api.Event{Kind: api.WhyE, Plan: p, Why: y, Told: api.Told{Kind: 9}}, true)
	y.Fixes = y.Fixes[1:]
	says(t, "a fix is missing", api.Event{Kind: api.WhyE, Plan: p, Why: y}, false)
}

func TestAnswered(t *testing.T) {
	p := plan(day(1, 2, 1), first+early)
	answer := func(kind, fix int, places ...int) api.Event {
		return api.Event{Kind: api.WhatE, Plan: p, Fix: fix, Told: api.Told{Kind: kind, Week: sample.Week(places...)}}
	}
	// The variables are 1 and 2 for the slots, 3 for the room.
	for fix, want := range map[int]bool{1: true, -2: true, 3: true, -1: false, 2: false, -3: false, 0: false, 4: false, -4: false, far: false, -far - 1: false, -far: false} {
		says(t, fmt.Sprint("yes ", fix), answer(api.YesA, fix, 0, 0), want)
		says(t, fmt.Sprint("no ", fix), answer(api.NoA, fix), !want)
		says(t, fmt.Sprint("out ", fix), answer(api.OutA, fix, 7, 7), true)
		for _, kind := range []int{0, 4, -1, far} {
			says(t, fmt.Sprint("other kind ", fix), answer(kind, fix, 0, 0), false)
		}
	}
	says(t, "breaks a rule", answer(api.YesA, 2, 1, 0), false)
	says(t, "not a week", answer(api.YesA, 1), false)
	p = plan(day(7, 4, 1), "")
	says(t, "too many weeks to try", answer(api.NoA, 1), true)
	p = plan(api.School{}, "")
	says(t, "no school, no", answer(api.NoA, 1), true)
	says(t, "no school, yes", answer(api.YesA, 1), false)
}

// correct says whether an event is right, by the words of the chapter.
func correct(e api.Event) bool {
	literal := func(w api.Week) bool {
		told, err := week.True(e.Plan.School, w)
		v := e.Fix
		if v < 0 {
			v = -v
		}
		return err == api.OK && v > 0 && v < len(told) && told[v] == (e.Fix > 0)
	}
	switch e.Kind {
	case api.PublishedE:
		hard, cost, err := eval.Judge(e.Plan.School, e.V.Week, e.Plan.Rules)
		return err == api.OK && hard == 0 && cost == e.V.Cost && stays(e.Plan, e.Old, e.V.Week) && (!e.V.Best || best(e.Plan, e.Old, e.V.Week))
	case api.RefusedE:
		return len(others(e.Plan, e.Old)) == 0
	case api.WhyE:
		return explains(e.Plan, e.Why)
	case api.WhatE:
		if e.Told.Kind == api.YesA {
			hard, _, err := eval.Judge(e.Plan.School, e.Told.Week, e.Plan.Rules)
			return err == api.OK && hard == 0 && literal(e.Told.Week)
		}
		free := e.Plan
		free.Frozen = nil
		return e.Told.Kind == api.OutA || e.Told.Kind == api.NoA && !slices.ContainsFunc(others(free, api.Week{}), literal)
	}
	return e.Kind == api.ShownE || e.Kind == api.OutE
}

func TestRandomEvents(t *testing.T) {
	seen := map[string]int{}
	for seed := range 2000 {
		r := sample.New(seed)
		p, old, w := randomWeeks(r)
		_, cost := audit.Holds(p, w)
		e := api.Event{Kind: r.Below(8), Plan: p, Old: old, Fix: r.Below(2*week.Vars(p.School)+5) - week.Vars(p.School) - 2}
		if e.Kind == api.WhyE {
			continue
		}
		e.V = api.Version{Week: w, Cost: cost + r.Below(4)/3, Best: r.Chance(2)}
		e.Told = api.Told{Kind: 1 + r.Below(4), Week: w}
		text := show(e)
		got := audit.Event(e)
		if got != correct(e) || show(e) != text {
			t.Fatalf("seed %d: Event reports %t: %s", seed, got, text)
		}
		seen[fmt.Sprint(e.Kind, got)]++
	}
	for _, kind := range []int{api.PublishedE, api.RefusedE, api.WhatE} {
		for _, got := range []bool{true, false} {
			if seen[fmt.Sprint(kind, got)] < 20 {
				t.Error(kind, got, seen)
			}
		}
	}
}

// version returns a version with a week of one lesson.
func version(no, slot, cost int, best bool) api.Version {
	return api.Version{No: no, Week: sample.Week(slot, 0), Cost: cost, Best: best}
}

func published(v api.Version) api.Event { return api.Event{Kind: api.PublishedE, V: v} }

func shown(client int, v api.Version) api.Event {
	return api.Event{Kind: api.ShownE, Client: client, V: v}
}

func TestShown(t *testing.T) {
	a, b := version(1, 4, 7, true), version(2, 5, 8, false)
	client := func(v api.Version) api.Client { return api.Client{No: v.No, Week: v.Week} }
	none := api.Client{}
	for i, x := range []struct {
		want    bool
		clients []api.Client
		events  []api.Event
	}{
		{true, nil, nil},
		{true, []api.Client{none, none}, []api.Event{published(a)}},
		{true, []api.Client{{Week: sample.Week(1, 1)}}, nil},
		{false, []api.Client{{No: 1, Week: a.Week}}, []api.Event{published(a)}},
		{false, []api.Client{{No: -1}}, nil},
		{true, []api.Client{client(a)}, []api.Event{published(a), shown(0, a)}},
		{false, []api.Client{client(a)}, []api.Event{shown(0, a), published(a)}},
		{false, []api.Client{none}, []api.Event{published(a), shown(0, a)}},
		{false, []api.Client{{No: 1, Week: sample.Week(3, 0)}}, []api.Event{published(a), shown(0, a)}},
		{false, []api.Client{{No: 1}}, []api.Event{published(a), shown(0, a)}},
		{false, []api.Client{{No: 2, Week: a.Week}}, []api.Event{published(a), shown(0, a)}},
		{false, []api.Client{client(a), none}, []api.Event{published(a), shown(1, a)}},
		{true, []api.Client{client(b), client(a)}, []api.Event{published(a), published(b), shown(1, a), shown(0, b)}},
		{true, []api.Client{client(b)}, []api.Event{published(a), shown(0, a), published(b), shown(0, b)}},
		{false, []api.Client{client(a)}, []api.Event{published(a), published(b), shown(0, b), shown(0, a)}},
		{false, []api.Client{client(a)}, []api.Event{published(a), shown(0, a), shown(0, a)}},
		{true, nil, []api.Event{published(a), published(b), shown(0, b), shown(1, a)}},
		{false, nil, []api.Event{published(a), published(b), shown(-7, b), shown(-7, a)}},
		{true, nil, []api.Event{published(a), published(b), shown(far, a), shown(far, b)}},
		{true, []api.Client{client(a)}, []api.Event{published(b), published(a), shown(0, a)}},
		{false, []api.Client{client(a)}, []api.Event{published(version(1, 3, 7, true)), shown(0, a)}},
		{false, []api.Client{client(a)}, []api.Event{published(version(1, 4, 6, true)), shown(0, a)}},
		{false, []api.Client{client(a)}, []api.Event{published(version(1, 4, 7, false)), shown(0, a)}},
		{false, []api.Client{client(a)}, []api.Event{published(version(2, 4, 7, true)), shown(0, a)}},
		{false, []api.Client{client(a)}, []api.Event{{Kind: api.WhyE, V: a}, shown(0, a)}},
		{true, []api.Client{none}, []api.Event{published(a), {Kind: api.OutE, V: a}, {Kind: 9}}},
		{true, []api.Client{{No: -3}}, []api.Event{published(api.Version{No: -3}), shown(0, api.Version{No: -3})}},
		{true, []api.Client{none}, []api.Event{published(api.Version{}), shown(0, api.Version{})}},
		{false, []api.Client{{Week: a.Week}}, []api.Event{published(api.Version{}), shown(0, api.Version{})}},
		{false, []api.Client{none}, []api.Event{published(api.Version{}), shown(0, api.Version{}), shown(0, api.Version{})}},
	} {
		p := api.Planner{Clients: x.clients, Events: x.events}
		if got := audit.Shown(p); got != x.want {
			t.Error(i, show(p), got)
		}
	}
}

// history returns the planner after random operations.
func history(r *sample.Source, steps int) api.Planner {
	p, _ := planner.New(1 + r.Below(3))
	for range steps {
		p, _ = planner.Do(p, r.Do(p))
	}
	return p
}

func TestHistoriesAreRight(t *testing.T) {
	seen := map[int]int{}
	for seed := range 150 {
		p := history(sample.New(seed), 50)
		if e := audit.Judge(p); e != api.OK {
			t.Fatalf("seed %d: %d", seed, e)
		}
		for _, x := range p.Events {
			seen[x.Kind]++
		}
	}
	for kind := api.PublishedE; kind < api.OutE; kind++ {
		if seen[kind] == 0 {
			t.Error("there is no event of kind", kind)
		}
	}
}

func TestJudge(t *testing.T) {
	ok, fault := 0, 0
	for seed := range 60 {
		r := sample.New(1000 + seed)
		p := history(r, 40)
		for range 10 {
			q := p
			q.Events = slices.Clone(p.Events)
			if len(q.Events) > 0 {
				at := r.Below(len(q.Events))
				switch x := &q.Events[at]; r.Below(5) {
				case 0:
					x.Kind = r.Below(8)
				case 1:
					x.V.Cost++
				case 2:
					x.V.No++
				case 3:
					x.Told.Kind = 1 + r.Below(4)
				case 4:
					q.Events = slices.Delete(q.Events, at, at+1)
				}
			}
			want := api.OK
			if slices.ContainsFunc(q.Events, func(e api.Event) bool { return !audit.Event(e) }) || !audit.Shown(q) {
				want = api.ErrFault
			}
			if got := audit.Judge(q); got != want {
				t.Fatal(seed, got, want)
			}
			if want == api.OK {
				ok++
			} else {
				fault++
			}
			q.Clients = make([]api.Client, 9)
			if got := audit.Judge(q); got != api.ErrArg {
				t.Fatal(seed, got)
			}
		}
	}
	if ok < 20 || fault < 20 {
		t.Error(ok, fault)
	}
	if e := audit.Judge(api.Planner{}); e != api.OK {
		t.Error(e)
	}
}
