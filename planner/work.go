package planner

import (
	"slices"

	"chalkline/api"
	"chalkline/edit"
	"chalkline/eval"
	"chalkline/journal"
	"chalkline/repair"
	"chalkline/syntax"
)

// work is the state while an operation is applied: the planner so far, and the one to go back to if the operation fails.
type work struct {
	api.Planner
	back api.Planner
}

// failure is the panic of an operation that reports an error.
type failure api.Errno

// check fails if e is an error.
func check(e api.Errno) {
	if e != api.OK {
		panic(failure(e))
	}
}

// require fails with an error unless ok holds.
func require(ok bool, e api.Errno) {
	if !ok {
		panic(failure(e))
	}
}

// with returns a new list, so that planners that have the old list in common stay apart.
func with[T any](l []T, x T) []T {
	return append(slices.Clip(l), x)
}

// discard discards the draft.
func (w *work) discard() {
	w.Ready, w.Draft = false, api.Repaired{}
}

// current returns the week of the last version.
func (w *work) current() api.Week {
	if len(w.Versions) == 0 {
		return api.Week{}
	}
	return w.Versions[len(w.Versions)-1].Week
}

// record appends an event to the history.
func (w *work) record(x api.Event) {
	w.Events = with(w.Events, x)
}

// complete completes the pending publication.
func (w *work) complete() {
	for _, x := range w.Wait {
		w.Versions = with(w.Versions, x.V)
		w.record(x)
	}
	w.Wait = nil
}

// school sets the school and its rules.
func (w *work) school(d api.Do) api.Told {
	require(len(w.Versions)+len(w.Wait) == 0, api.ErrState)
	rules, _, e := syntax.Parse(d.Text)
	check(e)
	plan := api.Plan{School: d.School, Rules: rules}
	check(edit.Check(plan))
	w.Plan = plan
	w.discard()
	return api.Told{N: len(rules)}
}

// edit edits the plan.
func (w *work) edit(d api.Do) api.Told {
	require(hasPlan(w.Planner), api.ErrState)
	plan, e := edit.Do(w.Plan, d.Edit)
	check(e)
	w.Plan = plan
	w.discard()
	return api.Told{N: len(plan.Rules)}
}

// solve computes a draft.
func (w *work) solve(d api.Do) api.Told {
	require(hasPlan(w.Planner) && len(w.Wait) == 0, api.ErrState)
	found, e := w.search(d.N)
	check(e)
	w.discard()
	if hasWeek(found) {
		w.Ready, w.Draft = true, found
	}
	told := api.Told{Kind: found.Kind}
	switch found.Kind {
	case api.NoA:
		w.record(api.Event{Kind: api.RefusedE, Plan: w.Plan, Old: w.current(), Told: told})
	case api.OutA:
		w.record(api.Event{Kind: api.OutE, Plan: w.Plan, Told: told})
	}
	return api.Told{Kind: found.Kind, N: found.Cost, Week: found.Week}
}

// search looks for a best week, near the current one if there is one.
func (w *work) search(budget int) (api.Repaired, api.Errno) {
	if len(w.Versions) == 0 {
		return repair.Make(w.Plan, budget)
	}
	return repair.Mend(w.Plan, w.current(), budget)
}

// publish writes the draft to the journal as the next version.
func (w *work) publish(api.Do) api.Told {
	require(w.Ready && len(w.Wait) == 0, api.ErrState)
	// A draft that was computed has a cost: solve would have reported the error of Judge.
	_, cost, _ := eval.Judge(w.Plan.School, w.Draft.Week, w.Plan.Rules)
	v := api.Version{No: len(w.Versions) + 1, Week: w.Draft.Week, Cost: cost, Best: w.Draft.Kind == api.YesA}
	disk, e := journal.Append(w.Disk, v)
	check(e)
	w.Disk = disk
	w.Wait = []api.Event{{Kind: api.PublishedE, Plan: w.Plan, Old: w.current(), V: v}}
	w.discard()
	return api.Told{N: v.No}
}

// sync makes the journal durable.
func (w *work) sync(api.Do) api.Told {
	disk, e := journal.Sync(w.Disk)
	check(e)
	w.Disk = disk
	w.complete()
	return api.Told{N: len(w.Versions)}
}

// crash loses the unsynced bytes beyond the first N, and recovers.
func (w *work) crash(d api.Do) api.Told {
	disk, e := journal.Crash(w.Disk, d.N)
	check(e)
	w.Disk = disk
	w.discard()
	if safe, _, _ := journal.Read(disk); len(safe) > len(w.Versions) {
		w.complete()
	}
	w.Wait = nil
	return api.Told{N: len(w.Versions)}
}
