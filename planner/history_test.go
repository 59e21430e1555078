package planner_test

import (
	"slices"
	"testing"

	"chalkline/api"
	"chalkline/edit"
	"chalkline/eval"
	"chalkline/feed"
	"chalkline/ground"
	"chalkline/journal"
	"chalkline/planner"
	"chalkline/repair"
	"chalkline/sample"
	"chalkline/school"
	"chalkline/syntax"
	"chalkline/tell"
	"chalkline/week"
	"chalkline/why"
)

// first returns the first error.
func first(l ...api.Errno) api.Errno {
	for _, e := range l {
		if e != api.OK {
			return e
		}
	}
	return api.OK
}

// when returns e if bad holds.
func when(bad bool, e api.Errno) api.Errno {
	if bad {
		return e
	}
	return api.OK
}

func plus[T any](l []T, x T) []T { return append(slices.Clone(l), x) }

func without[T any](l []T, at int) []T { return slices.Delete(slices.Clone(l), at, at+1) }

// byWords applies an operation to a valid planner, as the table of the chapter says it.
func byWords(p api.Planner, d api.Do) (api.Planner, api.Told) {
	var e api.Errno
	q, told := p, api.Told{}
	planned := len(p.Plan.School.Slots) > 0
	switch d.Kind {
	case api.SchoolDo, api.EditDo, api.SolveDo, api.PublishDo:
		q, told = planWords(p, d, planned)
	case api.SyncDo:
		q.Disk, e = journal.Sync(p.Disk)
		q = completed(q)
		told.N = len(q.Versions)
	case api.CrashDo:
		q.Disk, e = journal.Crash(p.Disk, d.N)
		if safe, _, _ := journal.Read(q.Disk); len(safe) > len(p.Versions) {
			q = completed(q)
		}
		q.Wait, q.Ready, q.Draft = nil, false, api.Repaired{}
		told.N = len(q.Versions)
	case api.WhyDo, api.WhatDo:
		q, told = askWords(p, d, planned)
	case api.SendDo, api.WishDo:
		if d.N < 0 || d.N >= len(p.Clients) {
			return p, api.Told{E: api.ErrArg}
		}
		m := feed.Wish(p.Clients[d.N], d.N)
		if d.Kind == api.SendDo {
			m, e = feed.Reply(p.Versions, 0, d.N)
		}
		q.Wire = plus(p.Wire, m)
	case api.GetDo, api.TwiceDo, api.LoseDo:
		return wireWords(p, d)
	default:
		e = api.ErrArg
	}
	if e = first(e, told.E); e != api.OK {
		return p, api.Told{E: e}
	}
	return q, told
}

func completed(p api.Planner) api.Planner {
	for _, x := range p.Wait {
		p.Versions, p.Events = plus(p.Versions, x.V), plus(p.Events, x)
	}
	p.Wait = nil
	return p
}

func lastWeek(p api.Planner) (w api.Week) {
	for _, v := range p.Versions {
		w = v.Week
	}
	return w
}

// planWords are the operations that make plans and versions.
func planWords(p api.Planner, d api.Do, planned bool) (api.Planner, api.Told) {
	q := p
	q.Ready, q.Draft = false, api.Repaired{}
	told := api.Told{}
	switch d.Kind {
	case api.SchoolDo:
		rules, _, e := syntax.Parse(d.Text)
		q.Plan = api.Plan{School: d.School, Rules: rules}
		told = api.Told{E: first(when(len(p.Versions)+len(p.Wait) > 0, api.ErrState), e, edit.Check(q.Plan)), N: len(rules)}
	case api.EditDo:
		plan, e := edit.Do(p.Plan, d.Edit)
		q.Plan = plan
		told = api.Told{E: first(when(!planned, api.ErrState), e), N: len(plan.Rules)}
	case api.SolveDo:
		found, e := repair.Make(p.Plan, d.N)
		if len(p.Versions) > 0 {
			found, e = repair.Mend(p.Plan, lastWeek(p), d.N)
		}
		told = api.Told{E: first(when(!planned || len(p.Wait) > 0, api.ErrState), e), Kind: found.Kind, N: found.Cost, Week: found.Week}
		if found.Kind == api.YesA || found.Kind == api.OutA && found.Some {
			q.Ready, q.Draft = true, found
		}
		if found.Kind == api.NoA {
			q.Events = plus(q.Events, api.Event{Kind: api.RefusedE, Plan: p.Plan, Old: lastWeek(p), Told: api.Told{Kind: api.NoA}})
		}
		if found.Kind == api.OutA {
			q.Events = plus(q.Events, api.Event{Kind: api.OutE, Plan: p.Plan, Told: api.Told{Kind: api.OutA}})
		}
	case api.PublishDo:
		_, cost, _ := eval.Judge(p.Plan.School, p.Draft.Week, p.Plan.Rules)
		v := api.Version{No: len(p.Versions) + 1, Week: p.Draft.Week, Cost: cost, Best: p.Draft.Kind == api.YesA}
		disk, e := journal.Append(p.Disk, v)
		q.Disk = disk
		q.Wait = []api.Event{{Kind: api.PublishedE, Plan: p.Plan, Old: lastWeek(p), V: v}}
		told = api.Told{E: first(when(!p.Ready || len(p.Wait) > 0, api.ErrState), e), N: v.No}
	}
	return q, told
}

// askWords are the questions.
func askWords(p api.Planner, d api.Do, planned bool) (api.Planner, api.Told) {
	s, rules := p.Plan.School, p.Plan.Rules
	all, e2 := ground.All(s, rules)
	if d.Kind == api.WhyDo {
		found, e1 := why.Why(s, rules, d.N)
		lines, e3 := tell.Why(s, rules, all, found)
		p.Events = plus(p.Events, api.Event{Kind: api.WhyE, Plan: p.Plan, Told: api.Told{Kind: found.Kind}, Why: found})
		return p, api.Told{E: first(when(!planned, api.ErrState), e1, e2, e3), Kind: found.Kind, N: len(found.Cores), Lines: lines}
	}
	lesson, known := school.Find(s, api.LessonS, d.Name)
	slot, found := school.Find(s, api.SlotS, d.Slot)
	fix := week.At(s, lesson, slot)
	kind, w, core, e1 := why.What(s, rules, []int{fix}, d.N)
	var named []api.Inst
	for _, i := range core {
		named = append(named, all[i])
	}
	lines, e3 := tell.Insts(s, rules, named)
	p.Events = plus(p.Events, api.Event{Kind: api.WhatE, Plan: p.Plan, Told: api.Told{Kind: kind, Week: w}, Fix: fix})
	return p, api.Told{E: first(when(!planned, api.ErrState), when(!known || !found, api.ErrName), e1, e2, e3), Kind: kind, N: len(core), Week: w, Lines: lines}
}

// wireWords are the operations on messages in transit.
func wireWords(p api.Planner, d api.Do) (api.Planner, api.Told) {
	if d.N < 0 || d.N >= len(p.Wire) {
		return p, api.Told{E: api.ErrArg}
	}
	m := p.Wire[d.N]
	if d.Kind != api.TwiceDo {
		p.Wire = without(p.Wire, d.N)
	}
	if d.Kind == api.LoseDo {
		return p, api.Told{}
	}
	if m.Kind == api.WishM {
		reply, e := feed.Reply(p.Versions, m.No, m.To)
		if e == api.OK {
			p.Wire = plus(p.Wire, reply)
		}
		return p, api.Told{E: e}
	}
	if m.To < 0 || m.To >= len(p.Clients) {
		return p, api.Told{E: api.ErrArg}
	}
	c, e := feed.Take(p.Clients[m.To], m)
	if e != api.OK {
		return p, api.Told{E: e}
	}
	p.Clients = slices.Clone(p.Clients)
	p.Clients[m.To] = c
	v := api.Version{No: c.No, Week: c.Week}
	if c.No <= len(p.Versions) {
		v = p.Versions[c.No-1]
	}
	p.Events = plus(p.Events, api.Event{Kind: api.ShownE, Client: m.To, V: v})
	return p, api.Told{}
}

// holds checks what is true of every planner that operations lead to.
func holds(t *testing.T, before, after api.Planner) {
	if e := planner.Check(after); e != api.OK {
		t.Fatal("the planner is not valid any more:", show(after))
	}
	if len(after.Versions) < len(before.Versions) || show(after.Versions[:len(before.Versions)]) != show(before.Versions) {
		t.Fatal("a version was withdrawn")
	}
	for _, x := range after.Events[len(before.Events):] {
		if x.Kind != api.PublishedE {
			continue
		}
		if hard, cost, e := eval.Judge(x.Plan.School, x.V.Week, x.Plan.Rules); hard > 0 || cost != x.V.Cost || e != api.OK {
			t.Fatal("a published week breaks a hard rule, or has another cost:", hard, cost, e)
		}
	}
	for i, c := range after.Clients {
		if c.No < before.Clients[i].No || c.No > 0 && show(c.Week) != show(after.Versions[c.No-1].Week) {
			t.Fatal("a client shows", c, "after", before.Clients[i])
		}
	}
}

func TestRandomHistories(t *testing.T) {
	done, failed := map[int]int{}, map[int]int{}
	for seed := range 100 {
		r := sample.New(seed)
		p, _ := planner.New(1 + r.Below(3))
		var all []api.Do
		var tolds []api.Told
		for range 60 {
			d := r.Do(p)
			text := show(p, d)
			q, told := planner.Do(p, d)
			want, wantTold := byWords(p, d)
			if show(q) != show(want) || show(told) != show(wantTold) {
				t.Fatalf("seed %d: %s: %s, want %s\n%s, want\n%s", seed, show(d), show(told), show(wantTold), show(q), show(want))
			}
			// Another operation on the same planner must leave the first result alone.
			planner.Do(p, r.Do(p))
			if show(p, d) != text || show(q) != show(want) {
				t.Fatalf("seed %d: %s changes an argument or a result", seed, show(d))
			}
			holds(t, p, q)
			if told.E == api.OK {
				done[d.Kind]++
			} else {
				failed[d.Kind]++
			}
			p, all, tolds = q, append(all, d), append(tolds, told)
		}
		start, _ := planner.New(len(p.Clients))
		if q, l := planner.Run(start, all); show(q) != show(p) || show(l) != show(tolds) {
			t.Fatalf("seed %d: Run does not do the same as Do", seed)
		}
	}
	for kind := 1; kind <= 13; kind++ {
		if done[kind] < 40 || failed[kind] < 20 && kind != api.SyncDo {
			t.Error("kind", kind, "was done", done[kind], "times and failed", failed[kind], "times")
		}
	}
}

func TestRunOfNothing(t *testing.T) {
	p := two(t)
	if q, l := planner.Run(p, nil); show(q) != show(p) || len(l) != 0 {
		t.Error(l)
	}
	bad := p
	bad.Disk = api.Disk{}
	if q, l := planner.Run(bad, []api.Do{of(api.SyncDo, 0), of(api.WishDo, 0)}); show(q) != show(bad) || show(l) != show([]api.Told{{E: api.ErrArg}, {E: api.ErrArg}}) {
		t.Error(l)
	}
}

// Two planners that come from the same one must not share the ends of their lists.
func TestPlannersStayApart(t *testing.T) {
	p := after(t, done(t), of(api.WishDo, 0), of(api.WishDo, 1), of(api.WishDo, 0))
	a := after(t, p, of(api.SendDo, 0))
	b := after(t, p, of(api.SendDo, 1))
	if a.Wire[3].To != 0 || b.Wire[3].To != 1 {
		t.Error(a.Wire, b.Wire)
	}
	a, b = after(t, a, of(api.GetDo, 3)), after(t, b, of(api.GetDo, 3))
	a, b = after(t, a, what("l0", "s0", enough)), after(t, b, what("l0", "s1", enough))
	a, b = after(t, a, what("l0", "s0", enough)), after(t, b, what("l0", "s1", enough))
	c := after(t, a, what("l0", "s1", enough))
	if a.Events[3].Fix != 1 || b.Events[3].Fix != 2 || c.Events[4].Fix != 2 || p.Clients[0].No+p.Clients[1].No != 0 {
		t.Error(show(a.Events), show(b.Events))
	}
}
