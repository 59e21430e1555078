package audit_test

import (
	"fmt"
	"slices"
	"testing"

	"chalkline/api"
	"chalkline/audit"
	"chalkline/eval"
	"chalkline/sample"
	"chalkline/week"
)

const (
	far    = 1<<63 - 1
	enough = 1 << 30
)

func show(l ...any) string { return fmt.Sprintf("%+v", l) }

// day is a school whose slots are the hours of one day.
func day(lessons, slots, rooms int) api.School {
	s := sample.Plain(lessons, slots, rooms, 0, 0)
	for i := range s.Slots {
		s.Slots[i].Day, s.Slots[i].Hour = 0, i
	}
	return s
}

func plan(s api.School, rules string, frozen ...int) api.Plan {
	return api.Plan{School: s, Rules: sample.Rules(rules), Frozen: frozen}
}

const (
	early = "soft soon 3 each l: lesson, s: slot: at(l, s) -> hour(s) = 0;"
	clash = "hard clash each s: slot: most 1 l: lesson (at(l, s));"
	first = "hard first each l: lesson, s: slot: at(l, s) -> hour(s) = 0;"
	many  = "hard many each a: lesson, b: lesson, c: lesson, d: lesson, e: lesson, f: lesson: true;"
)

func TestTheExampleOfTheChapter(t *testing.T) {
	p := plan(day(1, 2, 1), early)
	a, b := sample.Week(0, 0), sample.Week(1, 0)
	frozen := p
	frozen.Frozen = []int{0}
	for _, x := range []struct {
		p      api.Plan
		old, w api.Week
		want   bool
	}{
		{p, api.Week{}, a, true}, {p, a, a, true}, {p, b, a, true}, {p, api.Week{}, b, false}, {p, b, b, false},
		{frozen, b, b, true}, {frozen, a, b, false}, {frozen, api.Week{}, b, false}, {frozen, b, a, false}, {frozen, a, a, true},
	} {
		if got := audit.Best(x.p, x.old, x.w); got != x.want {
			t.Error(x.old, x.w, got)
		}
	}
}

func TestHolds(t *testing.T) {
	p := plan(day(2, 2, 1), clash+early)
	for _, x := range []struct {
		p    api.Plan
		w    api.Week
		ok   bool
		cost int
	}{
		{p, sample.Week(0, 0, 1, 0), true, 3},
		{p, sample.Week(0, 0, 0, 0), false, 0},
		{p, sample.Week(1, 0, 1, 0), false, 6},
		{p, sample.Week(0, 0), false, 0},
		{p, sample.Week(0, 0, 2, 0), false, 0},
		{p, sample.Week(0, 0, 1, 1), false, 0},
		{plan(day(2, 2, 1), "hard r: x = y;"), sample.Week(1, 0, 0, 0), false, 0},
		{plan(api.School{}, ""), api.Week{}, false, 0},
		{plan(day(5, 1, 1), many), sample.Zero(day(5, 1, 1)), false, 0},
		{plan(day(1, 1, 1), ""), sample.Week(0, 0), true, 0},
	} {
		if ok, cost := audit.Holds(x.p, x.w); ok != x.ok || cost != x.cost {
			t.Error(show(x), ok, cost)
		}
	}
}

// fits, stays and moved are the words of the chapter about an old week and a week.
func fits(p api.Plan, old api.Week) bool { return week.Check(p.School, old) == api.OK }

func stays(p api.Plan, old, w api.Week) bool {
	for _, l := range p.Frozen {
		if fits(p, old) && l >= 0 && l < len(old.L) && l < len(w.L) && old.L[l] != w.L[l] {
			return false
		}
	}
	return true
}

func moved(p api.Plan, old, w api.Week) int {
	n := 0
	for i := range w.L {
		if fits(p, old) && len(old.L) == len(w.L) && old.L[i] != w.L[i] {
			n++
		}
	}
	return n
}

// others returns the weeks that satisfy all hard rules and respect an old week.
func others(p api.Plan, old api.Week) []api.Week {
	all, _ := week.All(p.School, 4096)
	return slices.DeleteFunc(all, func(w api.Week) bool {
		hard, _, e := eval.Judge(p.School, w, p.Rules)
		return hard > 0 || e != api.OK || !stays(p, old, w)
	})
}

// best says whether a week is best, by its words.
func best(p api.Plan, old, w api.Week) bool {
	hard, cost, e := eval.Judge(p.School, w, p.Rules)
	if e != api.OK || hard > 0 || !stays(p, old, w) {
		return false
	}
	for _, x := range others(p, old) {
		_, c, _ := eval.Judge(p.School, x, p.Rules)
		if c < cost || c == cost && moved(p, old, x) < moved(p, old, w) {
			return false
		}
	}
	return true
}

// random returns a plan with few weeks; its frozen lessons may be no lessons at all.
func random(r *sample.Source) api.Plan {
	p := api.Plan{School: r.School(r.Below(4), 1+r.Below(3), 1+r.Below(2)), Rules: r.Rules(r.Below(4), 2), Frozen: r.Some(3)}
	if r.Chance(10) {
		p.Frozen = []int{5, -1, far, -far - 1, 0}
	}
	return p
}

// randomOld returns a week of a school, or one that is not.
func randomOld(r *sample.Source, s api.School) api.Week {
	w := r.Week(s)
	if r.Chance(4) {
		w.L = append(w.L, api.Place{})
	}
	if len(w.L) > 0 && r.Chance(4) {
		w.L[r.Below(len(w.L))].Slot = 3
	}
	if r.Chance(4) {
		w.L = w.L[:r.Below(len(w.L)+1)]
	}
	return w
}

// randomWeeks returns a plan, an old week, and a week that often may follow it.
func randomWeeks(r *sample.Source) (p api.Plan, old, w api.Week) {
	p = random(r)
	old, w = randomOld(r, p.School), randomOld(r, p.School)
	if l := others(p, old); len(l) > 0 && r.Chance(2) {
		w = l[r.Below(len(l))]
	}
	return p, old, w
}

func TestBestAndNone(t *testing.T) {
	seen := map[string]int{}
	for seed := range 1500 {
		r := sample.New(seed)
		p, old, w := randomWeeks(r)
		text := show(p, old, w)
		got, none := audit.Best(p, old, w), audit.None(p, old)
		if want := best(p, old, w); got != want {
			t.Fatalf("seed %d: Best reports %t: %s", seed, got, text)
		}
		if want := len(others(p, old)) == 0; none != want {
			t.Fatalf("seed %d: None reports %t: %s", seed, none, text)
		}
		if show(p, old, w) != text {
			t.Fatal("an argument was changed")
		}
		seen[fmt.Sprint("best ", got)]++
		seen[fmt.Sprint("none ", none)]++
	}
	if len(seen) < 4 || seen["best true"] < 50 || seen["none true"] < 50 {
		t.Error(seen)
	}
}

func TestFewestMoves(t *testing.T) {
	p := plan(day(2, 2, 1), clash)
	old := sample.Week(0, 0, 1, 0)
	if !audit.Best(p, old, old) || audit.Best(p, old, sample.Week(1, 0, 0, 0)) || !audit.Best(p, api.Week{}, sample.Week(1, 0, 0, 0)) {
		t.Error("of two weeks that cost the same, the one with fewer moves is best")
	}
}

func TestWhatCanNotBeChecked(t *testing.T) {
	// 7 lessons, 4 slots and 1 room make 16384 weeks, 6 lessons 4096.
	big, limit := day(7, 4, 1), day(6, 4, 1)
	late := sample.Zero(big)
	late.L[6].Slot = 3
	if !audit.Best(plan(big, early), api.Week{}, late) || !audit.Best(plan(big, early, 0), late, sample.Zero(big)) {
		t.Error("Best must believe what can't be checked")
	}
	if audit.Best(plan(big, first), api.Week{}, late) || audit.Best(plan(big, "", 6), sample.Zero(big), late) || audit.Best(plan(big, ""), api.Week{}, api.Week{}) {
		t.Error("what one week shows can be checked")
	}
	if !audit.None(plan(big, ""), api.Week{}) || !audit.None(api.Plan{}, api.Week{}) {
		t.Error("None must believe what can't be checked")
	}
	late.L = late.L[1:]
	if audit.Best(plan(limit, early), api.Week{}, late) || !audit.Best(plan(limit, early), late, sample.Zero(limit)) || audit.None(plan(limit, ""), late) {
		t.Error("4096 weeks can be checked")
	}
	if !audit.None(plan(limit, "hard never: false;"), api.Week{}) {
		t.Error("there is no week")
	}
}
