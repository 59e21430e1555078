package repair_test

import (
	"fmt"
	"reflect"
	"slices"
	"testing"

	"chalkline/api"
	"chalkline/eval"
	"chalkline/model"
	"chalkline/repair"
	"chalkline/sample"
	"chalkline/week"
)

const (
	far    = 1<<63 - 1
	most   = 1 << 40
	enough = 1 << 30
)

func same(a, b api.Week) bool { return slices.Equal(a.L, b.L) }

func moves(a, b api.Week) int {
	n := 0
	for i := range a.L {
		if a.L[i] != b.L[i] {
			n++
		}
	}
	return n
}

// verdict is what can be found out about a plan by trying all weeks.
type verdict struct {
	feasible    bool
	cost, moves int
}

// judged tries all weeks; frozen lessons and moves count only if mend.
func judged(p api.Plan, old api.Week, mend bool) (v verdict) {
	weeks, _ := week.All(p.School, 4096)
	for _, w := range weeks {
		hard, cost, _ := eval.Judge(p.School, w, p.Rules)
		n := 0
		if mend {
			n = moves(old, w)
			if slices.ContainsFunc(p.Frozen, func(l int) bool { return w.L[l] != old.L[l] }) {
				continue
			}
		}
		if hard == 0 && (!v.feasible || cost < v.cost || cost == v.cost && n < v.moves) {
			v = verdict{true, cost, n}
		}
	}
	return v
}

// wrong tells what a result has wrong.
func wrong(p api.Plan, old api.Week, mend bool, budget int, r api.Repaired) string {
	v := judged(p, old, mend)
	if r.Spent < 0 || r.Spent > budget {
		return "spent too much"
	}
	if r.Some {
		hard, cost, e := eval.Judge(p.School, r.Week, p.Rules)
		n := 0
		if mend {
			n = moves(old, r.Week)
		}
		switch {
		case e != api.OK || hard > 0 || cost != r.Cost || n != r.Moves:
			return "not a week of that cost and so many moves"
		case mend && slices.ContainsFunc(p.Frozen, func(l int) bool { return r.Week.L[l] != old.L[l] }):
			return "a frozen lesson moved"
		}
	} else if len(r.Week.L) > 0 || r.Cost != 0 || r.Moves != 0 {
		return "no week, but something of one"
	}
	switch {
	case r.Kind == api.YesA && (!r.Some || r.Cost != v.cost || r.Moves != v.moves):
		return "not the best week"
	case r.Kind == api.NoA && (r.Some || v.feasible):
		return "there is a week"
	case r.Kind == api.OutA && r.Spent != budget:
		return "budget left"
	case r.Kind < api.YesA || r.Kind > api.OutA:
		return "no kind"
	}
	return ""
}

func TestTheExampleOfTheChapter(t *testing.T) {
	p := api.Plan{School: sample.Plain(1, 2, 1, 0, 0)}
	p.School.Slots[1] = api.Slot{Name: "s1", Hour: 1}
	for slot := range 2 {
		old := sample.Week(slot, 0)
		if r, e := repair.Mend(p, old, enough); e != api.OK || r.Kind != api.YesA || !same(r.Week, old) || r.Cost != 0 || r.Moves != 0 || !r.Some {
			t.Error(r, e)
		}
	}
	if r, e := repair.Make(p, enough); e != api.OK || r.Kind != api.YesA || !r.Some || r.Cost != 0 || r.Moves != 0 {
		t.Error(r, e)
	}
	p.Rules = sample.Rules("soft other 1 each l: lesson, s: slot: at(l, s) -> hour(s) = 1;")
	if r, e := repair.Mend(p, sample.Week(0, 0), enough); e != api.OK || r.Kind != api.YesA || !same(r.Week, sample.Week(1, 0)) || r.Cost != 0 || r.Moves != 1 {
		t.Error(r, e)
	}
	p.Frozen = []int{0}
	if r, e := repair.Mend(p, sample.Week(0, 0), enough); e != api.OK || r.Kind != api.YesA || !same(r.Week, sample.Week(0, 0)) || r.Cost != 1 || r.Moves != 0 {
		t.Error(r, e)
	}
	if r, e := repair.Make(p, enough); e != api.OK || !same(r.Week, sample.Week(1, 0)) || r.Cost != 0 {
		t.Error("Make does not ignore frozen lessons", r, e)
	}
	p.Rules = sample.Rules("hard other each l: lesson, s: slot: at(l, s) -> hour(s) = 1;")
	if r, e := repair.Mend(p, sample.Week(0, 0), enough); e != api.OK || r.Kind != api.NoA || wrong(p, sample.Week(0, 0), true, enough, r) != "" {
		t.Error(r, e)
	}
}

func TestErrors(t *testing.T) {
	s := sample.Plain(2, 2, 1, 0, 0)
	old := sample.Week(0, 0, 1, 0)
	untyped := []api.Rule{{Name: "a", Hard: true, Body: sample.Form("x = y")}}
	many := sample.Plain(64, 1, 1, 64, 0)
	for i, x := range []struct {
		p          api.Plan
		old        api.Week
		budget     int
		made, mend api.Errno
	}{
		{api.Plan{School: s}, old, 0, api.OK, api.OK}, {api.Plan{School: s}, old, most, api.OK, api.OK}, {api.Plan{School: s}, old, -1, api.ErrArg, api.ErrArg}, {api.Plan{School: s}, old, most + 1, api.ErrArg, api.ErrArg}, {api.Plan{School: s}, old, far, api.ErrArg, api.ErrArg}, {api.Plan{School: s}, old, -far - 1, api.ErrArg, api.ErrArg},
		{api.Plan{}, old, -1, api.ErrArg, api.ErrArg}, {api.Plan{School: s, Rules: untyped}, sample.Week(9, 9), -1, api.ErrVar, api.ErrVar}, {api.Plan{School: s, Frozen: []int{2}}, old, 5, api.ErrArg, api.ErrArg}, {api.Plan{School: sample.Plain(65, 1, 1, 0, 0)}, old, -1, api.ErrBound, api.ErrBound},
		{api.Plan{School: s}, sample.Week(0, 0), 5, api.OK, api.ErrPlace}, {api.Plan{School: s}, sample.Week(0, 0, 2, 0), -1, api.ErrArg, api.ErrPlace}, {api.Plan{School: s}, api.Week{}, 5, api.OK, api.ErrPlace},
		{api.Plan{School: many, Rules: sample.Rules("hard a each l: lesson, p: person: true; hard b: true;")}, sample.Zero(many), -1, api.ErrArg, api.ErrArg}, {api.Plan{School: many, Rules: sample.Rules("hard a each l: lesson, p: person: true; hard b: true;")}, sample.Zero(many), most + 1, api.ErrArg, api.ErrArg}, {api.Plan{School: many, Rules: sample.Rules("hard a each l: lesson, p: person: true; hard b: true;")}, sample.Zero(many), most, api.ErrBound, api.ErrBound}, {api.Plan{School: many, Rules: sample.Rules("hard a each l: lesson, p: person: true; hard b: true;")}, sample.Zero(many), 5, api.ErrBound, api.ErrBound},
		{api.Plan{School: sample.Plain(64, 50, 32, 0, 0)}, sample.Zero(sample.Plain(64, 1, 1, 0, 0)), 5, api.ErrBound, api.ErrBound},
	} {
		if r, e := repair.Make(x.p, x.budget); e != x.made || e != api.OK && !reflect.DeepEqual(r, api.Repaired{}) {
			t.Errorf("%d: Make reports %d, want %d", i, e, x.made)
		}
		if r, e := repair.Mend(x.p, x.old, x.budget); e != x.mend || e != api.OK && !reflect.DeepEqual(r, api.Repaired{}) {
			t.Errorf("%d: Mend reports %d, want %d", i, e, x.mend)
		}
	}
}

func TestRandomPlans(t *testing.T) {
	r := sample.New(1)
	kinds, moved, stuck := map[int]int{}, 0, 0
	for range 400 {
		shape := [][3]int{{1, 3, 2}, {2, 2, 2}, {3, 3, 1}, {4, 2, 1}, {2, 4, 2}, {3, 2, 2}, {0, 1, 1}}[r.Below(7)]
		p := api.Plan{School: r.School(shape[0], shape[1], shape[2]), Rules: r.Rules(r.Below(4), 4)}
		for i, rule := range sample.Rules("hard h: true; hard i each l: lesson, s: slot: at(l, s) -> hour(s) < 5; hard j each s: slot, r: room: most 1 l: lesson (at(l, s) & in(l, r)); hard k each l: lesson, r: room: in(l, r) -> seats(r) > 9;") {
			// More soft rules than hard ones, so that there are weeks to choose from.
			if r.Chance(2) {
				if !r.Chance(4) {
					rule.Hard, rule.Weight = false, 1+r.Below(9)+i
				}
				p.Rules = append(p.Rules, rule)
			}
		}
		for l := range shape[0] {
			if r.Chance(4) {
				p.Frozen = append(p.Frozen, l)
			}
		}
		old := r.Week(p.School)
		budget := []int{0, 1, 3, enough, enough, enough}[r.Below(6)]
		text := fmt.Sprint(p, old)
		a, e1 := repair.Make(p, budget)
		b, e2 := repair.Mend(p, old, budget)
		if e1 != api.OK || e2 != api.OK || fmt.Sprint(p, old) != text {
			t.Fatal(e1, e2)
		}
		if w := wrong(p, old, false, budget, a); w != "" {
			t.Fatalf("Make %v with %d: %v: %s", p, budget, a, w)
		}
		if w := wrong(p, old, true, budget, b); w != "" {
			t.Fatalf("Mend %v, %v with %d: %v: %s", p, old, budget, b, w)
		}
		kinds[a.Kind]++
		if kinds[b.Kind]++; budget == enough && (a.Kind == api.OutA || b.Kind == api.OutA) {
			t.Fatal("out of a budget that is large enough")
		}
		if b.Moves > 0 && len(p.Frozen) > 0 {
			moved++
		}
		if b.Kind != api.YesA || budget < enough {
			continue
		}
		// The best week is the best week of itself.
		if again, e := repair.Mend(p, b.Week, budget); e != api.OK || !same(again.Week, b.Week) || again.Moves != 0 || again.Cost != b.Cost {
			t.Fatal(p, b, again, e)
		}
		if a.Kind == api.YesA && b.Cost > a.Cost {
			stuck++
		}
	}
	if kinds[api.YesA] < 300 || kinds[api.NoA] < 50 || kinds[api.OutA] < 20 || moved < 20 || stuck < 5 {
		t.Error(kinds, moved, stuck)
	}
}

// A school with many more weeks than can be tried, whose best weeks are known: one of six lessons has the first hour, and each room has three.
func TestALargerSchool(t *testing.T) {
	p := api.Plan{School: sample.Plain(6, 6, 2, 0, 0)}
	for i := range p.School.Slots {
		p.School.Slots[i].Day, p.School.Slots[i].Hour = 0, i
	}
	p.Rules = sample.Rules(`
hard apart each s: slot: most 1 l: lesson (at(l, s));
soft late 3 each l: lesson, s: slot: at(l, s) -> hour(s) > 0;
soft fair 2 each r: room: most 2 l: lesson (in(l, r));`)
	r, e := repair.Make(p, most)
	hard, cost, _ := eval.Judge(p.School, r.Week, p.Rules)
	// The rooms can't both have at most two lessons.
	if e != api.OK || r.Kind != api.YesA || hard != 0 || cost != r.Cost || r.Cost != 5 {
		t.Fatal(r, hard, cost, e)
	}
	old := r.Week
	if r, e := repair.Mend(p, old, most); e != api.OK || r.Kind != api.YesA || !same(r.Week, old) || r.Moves != 0 || r.Cost != 5 {
		t.Error(r, e)
	}
	other := api.Week{L: slices.Clone(old.L)}
	other.L[2].Slot = other.L[3].Slot
	r, e = repair.Mend(p, other, most)
	if e != api.OK || r.Kind != api.YesA || r.Cost != 5 || r.Moves != 1 || moves(other, r.Week) != 1 {
		t.Error(r, e)
	}
	p.Frozen = []int{2, 3}
	if r, e := repair.Mend(p, other, most); e != api.OK || r.Kind != api.NoA || r.Some {
		t.Error(r, e)
	}
	if r, e := repair.Make(p, 0); e != api.OK || r.Kind == api.OutA && r.Spent != 0 || r.Kind == api.NoA {
		t.Error(r, e)
	}
}

// One point of cost weighs more than all moves together.
func TestCostComesFirst(t *testing.T) {
	p := api.Plan{School: sample.Plain(3, 2, 1, 0, 0), Rules: sample.Rules("soft all_ 1: all l: lesson, s: slot (at(l, s) -> hour(s) = 1);")}
	p.School.Slots[1] = api.Slot{Name: "s1", Hour: 1}
	if r, e := repair.Mend(p, sample.Zero(p.School), enough); e != api.OK || r.Kind != api.YesA || r.Cost != 0 || r.Moves != 3 || !same(r.Week, sample.Week(1, 0, 1, 0, 1, 0)) {
		t.Error(r, e)
	}
	p.Frozen = []int{1}
	if r, e := repair.Mend(p, sample.Week(0, 0, 0, 0, 1, 0), enough); e != api.OK || r.Kind != api.YesA || r.Cost != 1 || r.Moves != 0 {
		t.Error(r, e)
	}
}

// crowded is a plan with as many clauses as can be, so that there is no room for a search, but with so few weeks that they can be tried. Only one lesson may have the first hour, but all of them want it.
func crowded(lessons int) api.Plan {
	p := api.Plan{School: sample.Plain(lessons, 2, 2, 0, 0), Rules: sample.Rules(`
hard one each s: slot: hour(s) = 0 -> most 1 l: lesson (at(l, s));
soft want 5 each l: lesson, s: slot: at(l, s) -> hour(s) = 0;
soft fair 1 each r: room: most 3 l: lesson (in(l, r));`)}
	p.School.Slots[1] = api.Slot{Name: "s1", Hour: 1}
	for _, filler := range []string{
		"hard n%d each l: lesson, m: lesson, s: slot: at(l, s) | !at(l, s) | at(m, s) | least 3 k: lesson, q: room (in(k, q) & at(k, s));",
		"hard n%d each l: lesson: (some s: slot (at(l, s))) | least 3 k: lesson, q: room (in(k, q) & in(l, q));",
		"hard n%d: some l: lesson, s: slot (at(l, s));", "hard n%d: true;",
	} {
		for {
			more := append(slices.Clone(p.Rules), sample.Rules(fmt.Sprintf(filler, len(p.Rules)))...)
			if _, e := model.Compile(p.School, more); e != api.OK || len(more) > api.MaxRules {
				break
			}
			p.Rules = more
		}
	}
	return p
}

func TestNoRoom(t *testing.T) {
	p := crowded(5)
	old := sample.Week(0, 0, 0, 0, 1, 1, 0, 0, 0, 0)
	p.Frozen = []int{2}
	a, e1 := repair.Make(p, enough)
	b, e2 := repair.Mend(p, old, enough)
	if wa, wb := wrong(p, old, false, enough, a), wrong(p, old, true, enough, b); e1 != api.OK || e2 != api.OK || wa != "" || wb != "" || a.Kind != api.YesA || b.Kind != api.YesA || b.Cost != 20 || b.Moves != 3 {
		t.Error(a, b, e1, e2, wa, wb)
	}
	p.Frozen = []int{0, 1}
	if r, e := repair.Mend(p, old, enough); e != api.OK || r.Kind != api.NoA || r.Some || r.Cost != 0 || len(r.Week.L) > 0 {
		t.Error(r, e)
	}
	p.Frozen = nil
	old = sample.Week(1, 0, 1, 1, 1, 1, 1, 0, 0, 1)
	if r, e := repair.Mend(p, old, enough); e != api.OK || r.Kind != api.YesA || !same(r.Week, old) || r.Cost != 20 || r.Moves != 0 {
		t.Error(r, e)
	}
	// Six lessons have exactly 4096 weeks, and seven have too many.
	p = crowded(6)
	r, e := repair.Mend(p, sample.Zero(p.School), enough)
	if hard, cost, _ := eval.Judge(p.School, r.Week, p.Rules); e != api.OK || r.Kind != api.YesA || hard > 0 || cost != 25 || r.Cost != 25 || r.Moves != 5 {
		t.Error(r, hard, cost, e)
	}
	p = crowded(7)
	r, e = repair.Mend(p, sample.Zero(p.School), enough)
	if e != api.OK && (e != api.ErrBound || !reflect.DeepEqual(r, api.Repaired{})) || e == api.OK && r.Cost != 31 {
		t.Error(r, e)
	}
}
