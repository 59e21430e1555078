package sample

import (
	"strconv"

	"chalkline/api"
	"chalkline/syntax"
)

// Do returns an operation for a planner. Every kind occurs, but often it is one that leads on.
func (r *Source) Do(p api.Planner) api.Do {
	d := api.Do{Kind: 1 + r.Below(13), N: r.Below(4) - r.Below(2)}
	if r.Chance(2) {
		d = api.Do{Kind: onward(p), N: r.Below(1 + len(p.Wire))}
	}
	switch d.Kind {
	case api.SchoolDo:
		d.School = r.School(r.Below(4), 1+r.Below(3), 1+r.Below(2))
		d.Text = r.text(r.Below(3))
	case api.EditDo:
		d.Edit = r.edit()
	case api.SolveDo, api.WhyDo, api.WhatDo:
		budgets := [6]int{0, 1, 3, 1 << 30, 1 << 30, -1}
		d.Name, d.Slot, d.N = "l"+strconv.Itoa(r.Below(3)), "s"+strconv.Itoa(r.Below(3)), budgets[r.Below(6)]
	case api.CrashDo:
		d.N = r.Below(len(p.Disk.Open)+2) - r.Below(2)
	}
	return d
}

// edit returns an edit; it has only the fields that its kind uses.
func (r *Source) edit() api.Edit {
	x := api.Edit{Kind: 1 + r.Below(6)}
	number := strconv.Itoa(r.Below(2))
	switch x.Kind {
	case api.AwayE:
		x.Name, x.Slot, x.Off = "p"+number, "s"+strconv.Itoa(r.Below(3)), r.Chance(2)
	case api.ShutE:
		x.Name, x.Slot, x.Off = "r"+number, "s"+strconv.Itoa(r.Below(3)), r.Chance(2)
	case api.AddE, api.ChangeE:
		x.Text = r.text(1)
	case api.DropE:
		x.Name = "n" + number
	case api.FreezeE:
		x.Name, x.Off = "l"+number, r.Chance(2)
	}
	return x
}

// text returns the text of n small rules.
func (r *Source) text(n int) []byte {
	b, _ := syntax.Print(r.Rules(n, 2))
	return b
}

// onward returns the kind of an operation that leads on.
func onward(p api.Planner) int {
	switch {
	case len(p.Plan.School.Slots) == 0:
		return api.SchoolDo
	case len(p.Wait) > 0:
		return api.SyncDo
	case p.Ready:
		return api.PublishDo
	case len(p.Wire) > 4:
		return api.LoseDo
	case len(p.Wire) > 0:
		return api.GetDo + 2*(len(p.Wire)%2)
	case len(p.Versions) == 0 || len(p.Events)%2 == 0:
		return api.SolveDo
	}
	return api.WishDo
}
