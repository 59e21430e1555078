package planner_test

import (
	"testing"

	"chalkline/api"
	"chalkline/journal"
	"chalkline/octet"
	"chalkline/planner"
	"chalkline/repair"
	"chalkline/sample"
	"chalkline/seal"
	"chalkline/week"
)

const (
	many  = "hard many each a: lesson, b: lesson, c: lesson, d: lesson, e: lesson, f: lesson: true;"
	never = "hard never: false;"
	late  = "soft late 4 each l: lesson, s: slot: at(l, s) -> hour(s) = 1;"
	clash = "hard clash each s: slot: most 1 l: lesson (at(l, s));"
)

func rule(kind int, text string) api.Do {
	return api.Do{Kind: api.EditDo, Edit: api.Edit{Kind: kind, Text: []byte(text)}}
}

func freeze(name string) api.Do {
	return api.Do{Kind: api.EditDo, Edit: api.Edit{Kind: api.FreezeE, Name: name}}
}

// with returns a planner without a draft, with another event.
func with(p api.Planner, x api.Event) api.Planner {
	p.Ready, p.Draft = false, api.Repaired{}
	p.Events = append(append([]api.Event{}, p.Events...), x)
	return p
}

// does checks what an operation returns.
func does(t *testing.T, name string, p api.Planner, d api.Do, want api.Planner, wantTold api.Told) {
	t.Helper()
	if q, told := planner.Do(p, d); show(told) != show(wantTold) || show(q) != show(want) {
		t.Errorf("%s: %s, want %s\n%s, want\n%s", name, show(told), show(wantTold), show(q), show(want))
	}
}

func TestSolveDoErrors(t *testing.T) {
	empty, _ := planner.New(1)
	fails(t, "no plan", empty, of(api.SolveDo, -1), api.ErrState)
	fails(t, "pending", pending(t), of(api.SolveDo, -1), api.ErrState)
	fails(t, "budget -1", ready(t), of(api.SolveDo, -1), api.ErrArg)
	fails(t, "budget too great", done(t), of(api.SolveDo, most+1), api.ErrArg)
	fails(t, "too many instances", after(t, empty, set(sample.Plain(5, 1, 1, 0, 0), many)), of(api.SolveDo, 5), api.ErrBound)
	fails(t, "a version of another school", rewritten(t, done(t), api.Version{No: 1, Week: sample.Week(0, 0, 0, 0)}), of(api.SolveDo, 5), api.ErrPlace)
}

func TestSolveDo(t *testing.T) {
	first := ready(t)
	want := first
	want.Draft = api.Repaired{Kind: api.YesA, Some: true, Week: sample.Week(0, 0)}
	does(t, "again", first, of(api.SolveDo, enough), want, api.Told{Kind: api.YesA, Week: sample.Week(0, 0)})

	p := after(t, done(t), rule(api.AddE, late))
	want = p
	want.Ready, want.Draft = true, api.Repaired{Kind: api.YesA, Some: true, Week: sample.Week(1, 0), Cost: 3, Moves: 1}
	does(t, "a move", p, of(api.SolveDo, enough), want, api.Told{Kind: api.YesA, N: 3, Week: sample.Week(1, 0)})

	p = after(t, p, freeze("l0"))
	want = p
	want.Ready, want.Draft = true, api.Repaired{Kind: api.YesA, Some: true, Week: sample.Week(0, 0), Cost: 4}
	does(t, "frozen", p, of(api.SolveDo, enough), want, api.Told{Kind: api.YesA, N: 4, Week: sample.Week(0, 0)})

	p = after(t, ready(t), rule(api.AddE, late), freeze("l0"))
	if _, told := planner.Do(p, of(api.SolveDo, enough)); told.N != 3 || show(told.Week) != show(sample.Week(1, 0)) {
		t.Error("a frozen lesson without a version:", told)
	}
}

func TestRefusals(t *testing.T) {
	for name, p := range map[string]api.Planner{"no version": ready(t), "a version": second(t)} {
		p.Plan.Rules = append(sample.Rules(never), p.Plan.Rules...)
		x := api.Event{Kind: api.RefusedE, Plan: p.Plan, Told: api.Told{Kind: api.NoA}}
		if len(p.Versions) > 0 {
			x.Old = p.Versions[0].Week
		}
		does(t, name, p, of(api.SolveDo, enough), with(p, x), api.Told{Kind: api.NoA})
	}
	// A week exists, but not with the frozen lesson.
	p := after(t, done(t), freeze("l0"), rule(api.AddE, "hard later each l: lesson, s: slot: at(l, s) -> hour(s) > 0;"))
	does(t, "frozen", p, of(api.SolveDo, enough), with(p, api.Event{Kind: api.RefusedE, Plan: p.Plan, Old: sample.Week(0, 0), Told: api.Told{Kind: api.NoA}}), api.Told{Kind: api.NoA})
}

// crowd is a school in which most weeks break the rules.
func crowd(t *testing.T) api.Planner {
	p, _ := planner.New(1)
	return after(t, p, set(hours(sample.Plain(4, 5, 1, 0, 0)), clash+early+late))
}

func TestExhaustedBudgets(t *testing.T) {
	some, none := 0, 0
	hopeless := after(t, crowd(t), rule(api.AddE, "hard soon2 each l: lesson, s: slot: at(l, s) -> hour(s) < 3;"))
	for _, p := range []api.Planner{crowd(t), hopeless} {
		for budget := range 30 {
			found, e := repair.Make(p.Plan, budget)
			if e != api.OK || found.Kind != api.OutA {
				continue
			}
			want := with(p, api.Event{Kind: api.OutE, Plan: p.Plan, Told: api.Told{Kind: api.OutA}})
			if found.Some {
				some++
				want.Ready, want.Draft = true, found
			} else {
				none++
			}
			does(t, "out of budget", p, of(api.SolveDo, budget), want, api.Told{Kind: api.OutA, N: found.Cost, Week: found.Week})
		}
	}
	if some == 0 || none == 0 {
		t.Error("no search ran out of its budget with a week, or none without:", some, none)
	}
}

func TestPublishDo(t *testing.T) {
	fails(t, "not ready", done(t), of(api.PublishDo, 0), api.ErrState)
	fails(t, "pending", pending(t), of(api.PublishDo, 0), api.ErrState)
	for name, x := range map[string]struct {
		draft api.Repaired
		v     api.Version
	}{
		"best":              {api.Repaired{Kind: api.YesA, Week: sample.Week(0, 0)}, api.Version{No: 2, Week: sample.Week(0, 0), Best: true}},
		"the cost of Judge": {api.Repaired{Kind: api.YesA, Week: sample.Week(1, 0), Cost: 99}, api.Version{No: 2, Week: sample.Week(1, 0), Cost: 3, Best: true}},
		"not best":          {api.Repaired{Kind: api.OutA, Some: true, Week: sample.Week(1, 0)}, api.Version{No: 2, Week: sample.Week(1, 0), Cost: 3}},
	} {
		p := second(t)
		p.Draft = x.draft
		want := p
		want.Ready, want.Draft = false, api.Repaired{}
		want.Wait = []api.Event{{Kind: api.PublishedE, Plan: p.Plan, Old: p.Versions[0].Week, V: x.v}}
		want.Disk, _ = journal.Append(p.Disk, x.v)
		does(t, name, p, of(api.PublishDo, 77), want, api.Told{N: 2})
	}
	if p := pending(t); len(p.Versions) != 0 || len(p.Wait[0].Old.L) != 0 || p.Wait[0].V.No != 1 {
		t.Error("the first version:", p.Wait)
	}
}

// fill adds versions of a week to a full disk.
func fill(t *testing.T, p *api.Planner, w api.Week) {
	for {
		v := api.Version{No: len(p.Versions) + 1, Week: w}
		frame, e := seal.Frame(octet.PutInt(octet.PutInt(week.Put(octet.PutInt(nil, v.No), w), 0), 0))
		if e != api.OK {
			t.Fatal(e)
		}
		if len(p.Disk.Safe)+len(frame) > 1<<20 {
			return
		}
		p.Disk.Safe, p.Versions = append(p.Disk.Safe, frame...), append(p.Versions, v)
	}
}

func TestFullDisk(t *testing.T) {
	p := ready(t)
	fill(t, &p, sample.Week(make([]int, 128)...))
	fill(t, &p, api.Week{})
	if e := planner.Check(p); e != api.OK {
		t.Fatal(e)
	}
	fails(t, "a full disk", p, of(api.PublishDo, 0), api.ErrBound)
}

func TestSyncDo(t *testing.T) {
	p := done(t)
	does(t, "nothing waits", p, of(api.SyncDo, 5), p, api.Told{N: 1})
	p = second(t)
	does(t, "a draft stays", p, of(api.SyncDo, 0), p, api.Told{N: 1})
	p = after(t, second(t), of(api.PublishDo, 0))
	want := p
	want.Disk, _ = journal.Sync(p.Disk)
	want.Wait = nil
	want.Versions = []api.Version{p.Versions[0], p.Wait[0].V}
	want.Events = []api.Event{p.Events[0], p.Wait[0]}
	does(t, "a version waits", p, of(api.SyncDo, 0), want, api.Told{N: 2})
}

func TestCrashDo(t *testing.T) {
	fails(t, "-1 bytes", pending(t), of(api.CrashDo, -1), api.ErrArg)
	fails(t, "-1 bytes of none", done(t), of(api.CrashDo, -far-1), api.ErrArg)
	p := second(t)
	want := p
	want.Ready, want.Draft = false, api.Repaired{}
	does(t, "a draft is lost", p, of(api.CrashDo, 100), want, api.Told{N: 1})

	p = after(t, second(t), of(api.PublishDo, 0))
	lost, kept := p, p
	lost.Wait, kept.Wait = nil, nil
	lost.Disk.Open = nil
	kept.Disk, _ = journal.Sync(p.Disk)
	kept.Versions = []api.Version{p.Versions[0], p.Wait[0].V}
	kept.Events = []api.Event{p.Events[0], p.Wait[0]}
	for _, keep := range []int{0, 1, len(p.Disk.Open) - 1} {
		does(t, "lost", p, of(api.CrashDo, keep), lost, api.Told{N: 1})
	}
	for _, keep := range []int{len(p.Disk.Open), len(p.Disk.Open) + 1, far} {
		does(t, "kept", p, of(api.CrashDo, keep), kept, api.Told{N: 2})
	}
}
