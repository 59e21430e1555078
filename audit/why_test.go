package audit_test

import (
	"slices"
	"testing"

	"chalkline/api"
	"chalkline/audit"
	"chalkline/eval"
	"chalkline/hit"
	"chalkline/sample"
	"chalkline/week"
	"chalkline/why"
)

// instance is an instance of a rule: the values of its variables.
type instance struct {
	rule api.Rule
	env  []api.Env
}

func instances(p api.Plan) []instance {
	var all []instance
	for _, r := range p.Rules {
		tuples, _ := eval.Insts(p.School, r)
		for _, x := range tuples {
			var env []api.Env
			for k, b := range r.Each {
				env = append(env, api.Env{Name: b.Name, Sort: b.Sort, At: x[k]})
			}
			all = append(all, instance{r, env})
		}
	}
	return all
}

// together says whether instances hold together in a week.
func together(p api.Plan, all []instance, set []int) bool {
	weeks, _ := week.All(p.School, 4096)
	return slices.ContainsFunc(weeks, func(w api.Week) bool {
		for _, i := range set {
			if ok, _ := eval.Holds(p.School, w, all[i].env, all[i].rule.Body); !ok {
				return false
			}
		}
		return true
	})
}

func plus(l []int, x int) []int {
	l = append(slices.Clone(l), x)
	slices.Sort(l)
	return l
}

func minus(l []int, x int) []int {
	return slices.DeleteFunc(slices.Clone(l), func(i int) bool { return i == x })
}

// explains says whether an explanation is right, by the words of the chapter, for a plan that can be judged.
func explains(p api.Plan, y api.Why) bool {
	all := instances(p)
	var hard []int
	for i, x := range all {
		if x.rule.Hard {
			hard = append(hard, i)
		}
	}
	for _, set := range slices.Concat(y.Cores, y.Fixes) {
		for k, i := range set {
			if !slices.Contains(hard, i) || k > 0 && set[k-1] >= i {
				return false
			}
		}
	}
	for _, core := range y.Cores {
		if together(p, all, core) || slices.ContainsFunc(core, func(i int) bool { return !together(p, all, minus(core, i)) }) {
			return false
		}
	}
	for _, fix := range y.Fixes {
		others := slices.DeleteFunc(slices.Clone(hard), func(i int) bool { return slices.Contains(fix, i) })
		if !together(p, all, others) || slices.ContainsFunc(fix, func(i int) bool { return together(p, all, plus(others, i)) }) {
			return false
		}
	}
	a, e1 := hit.Hits(y.Cores)
	b, e2 := hit.Hits(y.Fixes)
	return y.Kind == api.OutA || y.Kind == api.YesA && (e1 != api.OK || show(a) == show(y.Fixes)) && (e2 != api.OK || show(b) == show(y.Cores))
}

// spoilt changes something in an explanation.
func spoilt(r *sample.Source, y api.Why, instances int) api.Why {
	lists := []*[][]int{&y.Cores, &y.Fixes}
	for _, l := range lists {
		for i, set := range *l {
			*l = slices.Clone(*l)
			(*l)[i] = slices.Clone(set)
		}
	}
	l := lists[r.Below(2)]
	at := r.Below(len(*l) + 1)
	switch r.Below(6) {
	case 0:
		y.Kind = 1 + r.Below(4)
	case 1:
		*l = slices.Insert(*l, at, r.Some(instances))
	case 2:
		slices.Reverse(*l)
	case 3:
		y.Cores, y.Fixes = y.Fixes, y.Cores
	default:
		if at == len(*l) {
			break
		}
		set := &(*l)[at]
		if len(*set) == 0 || r.Chance(2) {
			*set = plus(*set, r.Below(instances+2)-1)
		} else if r.Chance(2) {
			*set = minus(*set, (*set)[r.Below(len(*set))])
		} else {
			*l = slices.Delete(*l, at, at+1)
		}
	}
	return y
}

func TestWhy(t *testing.T) {
	right, wrong, cores := 0, 0, 0
	for seed := range 250 {
		r := sample.New(seed)
		p := random(r)
		all := instances(p)
		y, e := why.Why(p.School, p.Rules, enough)
		if e != api.OK || len(all) > 30 {
			continue
		}
		cores += len(y.Cores)
		if !audit.Why(p, y) {
			t.Fatalf("seed %d: %s is not accepted", seed, show(p, y))
		}
		for range 20 {
			bad := spoilt(r, y, len(all))
			text := show(p, bad)
			got, want := audit.Why(p, bad), explains(p, bad)
			if got != want || show(p, bad) != text {
				t.Fatalf("seed %d: Why reports %t: %s", seed, got, text)
			}
			if got {
				right++
			} else {
				wrong++
			}
		}
	}
	if right < 100 || wrong < 500 || cores < 50 {
		t.Error(right, wrong, cores)
	}
}

// sets returns sets of one number each.
func sets(l ...int) [][]int {
	var all [][]int
	for _, i := range l {
		all = append(all, []int{i})
	}
	return all
}

func TestWhyTable(t *testing.T) {
	// Instance 0 is soft, 1 is clash at s0, 2 and 3 are first of the only lesson, 4 is never.
	p := plan(day(1, 2, 1), "soft s 1: false; hard clash: true;"+first+"hard never: false;")
	crowd := plan(day(2, 1, 1), clash+"hard x: false;")
	for i, x := range []struct {
		p    api.Plan
		y    api.Why
		want bool
	}{
		{p, api.Why{Kind: api.YesA, Cores: sets(4), Fixes: sets(4)}, true},
		{p, api.Why{Kind: api.OutA, Cores: sets(4)}, true},
		{p, api.Why{Kind: api.OutA, Fixes: sets(4)}, true},
		{p, api.Why{Kind: api.OutA}, true},
		{p, api.Why{Kind: api.YesA, Cores: sets(4)}, false},
		{p, api.Why{Kind: api.YesA, Fixes: sets(4)}, false},
		{p, api.Why{Kind: api.YesA}, false},
		{p, api.Why{Kind: api.NoA, Cores: sets(4), Fixes: sets(4)}, false},
		{p, api.Why{Cores: sets(4), Fixes: sets(4)}, false},
		{p, api.Why{Kind: 4}, false},
		{p, api.Why{Kind: api.OutA, Cores: sets(0)}, false},
		{p, api.Why{Kind: api.OutA, Cores: sets(3)}, false},
		{p, api.Why{Kind: api.OutA, Cores: sets(5)}, false},
		{p, api.Why{Kind: api.OutA, Cores: sets(-1)}, false},
		{p, api.Why{Kind: api.OutA, Cores: sets(far)}, false},
		{p, api.Why{Kind: api.OutA, Cores: [][]int{{}}}, false},
		{p, api.Why{Kind: api.OutA, Cores: [][]int{{3, 4}}}, false},
		{p, api.Why{Kind: api.OutA, Cores: [][]int{{4, 4}}}, false},
		{p, api.Why{Kind: api.OutA, Fixes: [][]int{{}}}, false},
		{p, api.Why{Kind: api.OutA, Fixes: [][]int{{2, 4}}}, false},
		{p, api.Why{Kind: api.OutA, Fixes: [][]int{{0, 4}}}, false},
		{p, api.Why{Kind: api.OutA, Fixes: [][]int{{4}, {4}}}, true},
		{crowd, api.Why{Kind: api.YesA, Cores: sets(0, 1), Fixes: [][]int{{0, 1}}}, true},
		{crowd, api.Why{Kind: api.YesA, Cores: sets(1, 0), Fixes: [][]int{{0, 1}}}, false},
		{crowd, api.Why{Kind: api.OutA, Cores: sets(1, 0), Fixes: [][]int{{0, 1}}}, true},
		{crowd, api.Why{Kind: api.YesA, Cores: sets(0, 1), Fixes: [][]int{{1, 0}}}, false},
		{plan(day(1, 1, 1), ""), api.Why{Kind: api.YesA, Fixes: [][]int{{}}}, true},
		{plan(day(1, 1, 1), ""), api.Why{Kind: api.YesA}, false},
		{plan(day(1, 1, 1), "hard r: x = y;"), api.Why{Kind: api.OutA}, false},
		{plan(day(5, 1, 1), many), api.Why{Kind: api.OutA}, false},
		{api.Plan{}, api.Why{Kind: api.OutA}, false},
	} {
		if got := audit.Why(x.p, x.y); got != x.want {
			t.Error(i, show(x.y), got)
		}
	}
}

// lots returns the sets {0, 1}, {2, 3} and so on.
func lots(n int) [][]int {
	var all [][]int
	for i := range n {
		all = append(all, []int{2 * i, 2*i + 1})
	}
	return all
}

func TestWhyOfManyWeeks(t *testing.T) {
	// 16384 weeks are too many to try; then only the form of the sets and their duality count.
	big := plan(day(7, 4, 1), "hard fine each l: lesson, s: slot: true; soft s 1 each l: lesson: true;")
	for i, x := range []struct {
		y    api.Why
		want bool
	}{
		{api.Why{Kind: api.OutA, Cores: [][]int{{0, 27}, {}}, Fixes: sets(3, 3)}, true},
		{api.Why{Kind: api.OutA, Cores: [][]int{{27, 0}}}, false},
		{api.Why{Kind: api.OutA, Fixes: sets(28)}, false},
		{api.Why{Kind: api.YesA, Cores: [][]int{{0, 27}}, Fixes: sets(0, 27)}, true},
		{api.Why{Kind: api.YesA, Cores: [][]int{{0, 27}}, Fixes: sets(0, 26)}, false},
		{api.Why{Kind: api.YesA, Cores: sets(5, 6), Fixes: [][]int{{5, 6}}}, true},
		{api.Why{Kind: api.YesA, Cores: sets(6, 5), Fixes: [][]int{{5, 6}}}, false},
		{api.Why{Kind: api.YesA, Cores: lots(13), Fixes: lots(13)}, true},
		{api.Why{Kind: api.YesA, Cores: lots(13), Fixes: lots(1)}, false},
		{api.Why{Kind: api.YesA, Cores: lots(1), Fixes: lots(13)}, false},
	} {
		if got := audit.Why(big, x.y); got != x.want {
			t.Error(i, show(x.y), got)
		}
	}
}
