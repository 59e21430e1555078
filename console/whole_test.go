package console_test

import (
	"slices"
	"strings"
	"testing"

	"chalkline/api"
	"chalkline/audit"
	"chalkline/console"
	"chalkline/eval"
	"chalkline/planner"
	"chalkline/sample"
	"chalkline/week"
)

// These are the ten examples of the whole.

const (
	clash  = "hard clash each s: slot, r: room: most 1 l: lesson (at(l, s) & in(l, r)); "
	early  = "soft early 3 each l: lesson, s: slot: at(l, s) -> hour(s) = 0; "
	first  = "hard first each l: lesson, s: slot: at(l, s) -> hour(s) = 0; "
	open   = "hard open each l: lesson, r: room, s: slot: shut(r, s) -> !(at(l, s) & in(l, r)); "
	enough = 1 << 30
)

func twoLessons() api.School {
	return api.School{
		Slots:   []api.Slot{{Name: "a"}, {Name: "b", Hour: 1}},
		Rooms:   []api.Room{{Name: "hall"}},
		Lessons: []api.Lesson{{Name: "x"}, {Name: "y"}},
	}
}

// do applies operations that must succeed, and returns the last result.
func do(t *testing.T, p api.Planner, l ...api.Do) (api.Planner, api.Told) {
	t.Helper()
	q, tolds := planner.Run(p, l)
	for i, told := range tolds {
		if told.E != api.OK {
			t.Fatal("operation", i, "reports", told.E)
		}
	}
	if e := audit.Judge(q); e != api.OK {
		t.Fatal("the audit reports", e)
	}
	return q, tolds[len(tolds)-1]
}

// begin returns a planner of the school with rules.
func begin(t *testing.T, s api.School, rules string) api.Planner {
	p, _ := planner.New(1)
	p, _ = do(t, p, api.Do{Kind: api.SchoolDo, School: s, Text: []byte(rules)})
	return p
}

// costs returns the costs of the feasible weeks.
func costs(rules string) []int {
	s := twoLessons()
	weeks, _ := week.All(s, 4)
	var l []int
	for _, w := range weeks {
		if ok, cost := audit.Holds(api.Plan{School: s, Rules: sample.Rules(rules)}, w); ok {
			l = append(l, cost)
		}
	}
	return l
}

func TestWeeksAndTheirCosts(t *testing.T) {
	if l := costs(clash); !slices.Equal(l, []int{0, 0}) {
		t.Error("example 1:", l)
	}
	if l := costs(clash + early); !slices.Equal(l, []int{3, 3}) {
		t.Error("example 2:", l)
	}
	if l := costs(clash + first); len(l) > 0 {
		t.Error("example 3:", l)
	}
	_, told := do(t, begin(t, twoLessons(), clash+early), of(api.SolveDo, enough))
	if told.Kind != api.YesA || told.N != 3 {
		t.Error("a best week costs 3:", told)
	}
}

func TestExplanationsOfTheWhole(t *testing.T) {
	p := begin(t, twoLessons(), clash+first)
	if _, told := do(t, p, of(api.SolveDo, enough)); told.Kind != api.NoA {
		t.Error("example 3:", told)
	}
	_, told := do(t, p, of(api.WhyDo, enough))
	text := strings.Join(told.Lines, "\n")
	cores := strings.Split(text, "these can't be together:\n")[1:]
	if len(cores) != told.N || told.N == 0 || slices.ContainsFunc(cores, func(core string) bool {
		return !strings.Contains(core, "hard clash:\n") || !strings.Contains(core, "hard first:\n")
	}) {
		t.Error("example 3:", text)
	}
	sentence := "first (l = x, s = b): at(x, b) -> hour(b) = 0"
	if !strings.Contains(text, "without these there is a week:\nhard first:\n  "+sentence+"\n") {
		t.Error("example 4:", text)
	}
	broken, _ := eval.Broken(p.Plan.School, sample.Week(1, 0, 0, 0), p.Plan.Rules)
	if len(broken) != 1 || broken[0].Rule != 1 || !slices.Equal(broken[0].Binds, []int{0, 1}) {
		t.Error("example 5:", broken)
	}
	if _, told = do(t, p, api.Do{Kind: api.WhatDo, Name: "x", Slot: "b", N: enough}); told.Kind != api.NoA || show(told.Lines) != show([]string{"hard first:", "  " + sentence}) {
		t.Error("x at b:", told)
	}
}

func TestClosedRoom(t *testing.T) {
	p := begin(t, twoLessons(), clash+open)
	if _, told := do(t, p, of(api.SolveDo, enough)); told.Kind != api.YesA {
		t.Error("the room is open:", told)
	}
	if _, told := do(t, p, edit(api.ShutE, "hall", "b", "", false), of(api.SolveDo, enough)); told.Kind != api.NoA {
		t.Error("example 6:", told)
	}
}

func TestVersionsOnTheirWay(t *testing.T) {
	p := begin(t, twoLessons(), clash)
	p, _ = do(t, p, of(api.SolveDo, enough), of(api.PublishDo, 0), of(api.SyncDo, 0), of(api.WishDo, 0), of(api.GetDo, 0))
	if m := p.Wire[0]; m.Kind != api.WholeM || m.No != 1 {
		t.Error("example 7:", m)
	}
	p, _ = do(t, p, of(api.GetDo, 0), of(api.SolveDo, enough), of(api.PublishDo, 0), of(api.SyncDo, 0), of(api.WishDo, 0), of(api.GetDo, 0))
	if m := p.Wire[0]; m.Kind != api.DiffM || m.From != 1 || m.No != 2 {
		t.Error("example 7:", m)
	}
	p, _ = do(t, p, of(api.TwiceDo, 0))
	if _, told := planner.Do(p, of(api.GetDo, 0)); told.E != api.ErrOld || p.Clients[0].No != 2 {
		t.Error("example 8:", told)
	}
	p, _ = do(t, p, of(api.SolveDo, enough), of(api.PublishDo, 0))
	for keep := range len(p.Disk.Open) + 1 {
		want := 2
		if keep == len(p.Disk.Open) {
			want = 3
		}
		if q, told := do(t, p, of(api.CrashDo, keep)); told.N != want || len(q.Versions) != want {
			t.Error("example 9:", keep, told)
		}
	}
}

func TestNoBudget(t *testing.T) {
	p := begin(t, sample.Plain(6, 5, 1, 0, 0), clash)
	p, told := do(t, p, of(api.SolveDo, 0))
	if told.Kind != api.OutA || p.Ready {
		t.Error("example 10:", told)
	}
	if out := string(console.Show(told)); out != "0 3 0\n" {
		t.Error(out)
	}
}
