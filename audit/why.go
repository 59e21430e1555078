package audit

import (
	"slices"

	"chalkline/api"
	"chalkline/eval"
	"chalkline/hit"
	"chalkline/week"
)

// Why reports whether cores and correction sets are correct and minimal.
func Why(p api.Plan, y api.Why) bool {
	zero := api.Week{L: make([]api.Place, len(p.School.Lessons))}
	if _, _, e := eval.Judge(p.School, zero, p.Rules); e != api.OK || y.Kind != api.YesA && y.Kind != api.OutA {
		return false
	}
	all := instances(p)
	hard := func(i int) bool { return i >= 0 && i < len(all) && p.Rules[all[i].Rule].Hard }
	if !each(y.Cores, isSetOf(hard)) || !each(y.Fixes, isSetOf(hard)) {
		return false
	}
	satisfiable, known := tried(p, all)
	if known && (!each(y.Cores, isCore(satisfiable)) || !each(y.Fixes, isFix(satisfiable, hard))) {
		return false
	}
	return y.Kind == api.OutA || dual(y.Cores, y.Fixes) && dual(y.Fixes, y.Cores)
}

// instances returns the instances of a plan whose rules were judged.
func instances(p api.Plan) []api.Inst {
	var all []api.Inst
	for at, r := range p.Rules {
		tuples, _ := eval.Insts(p.School, r)
		for _, x := range tuples {
			all = append(all, api.Inst{Rule: at, Binds: x})
		}
	}
	return all
}

// each reports whether all index sets pass a test.
func each(l [][]int, test func(set []int) bool) bool {
	return !slices.ContainsFunc(l, func(set []int) bool { return !test(set) })
}

// isSetOf returns a test for increasing lists of indices that belong to something.
func isSetOf(belongs func(i int) bool) func(set []int) bool {
	return func(set []int) bool {
		for at, i := range set {
			if !belongs(i) || at > 0 && i <= set[at-1] {
				return false
			}
		}
		return true
	}
}

// tried tries all weeks. It returns a function that reports whether the instances whose indices belong to a set hold together in a week, and whether all weeks could be tried.
func tried(p api.Plan, all []api.Inst) (satisfiable func(belongs func(i int) bool) bool, known bool) {
	weeks, e := week.All(p.School, mostWeeks)
	if e != api.OK {
		return nil, false
	}
	var broken [][]int
	for _, w := range weeks {
		broken = append(broken, brokenIn(p, w, all))
	}
	slices.SortFunc(broken, slices.Compare)
	broken = slices.CompactFunc(broken, slices.Equal)
	return func(belongs func(i int) bool) bool {
		return slices.ContainsFunc(broken, func(l []int) bool { return !slices.ContainsFunc(l, belongs) })
	}, true
}

// brokenIn returns the indices of the instances that do not hold in a week.
func brokenIn(p api.Plan, w api.Week, all []api.Inst) []int {
	var l []int
	next, _ := eval.Broken(p.School, w, p.Rules)
	for i, x := range all {
		// Both lists are in the same order.
		if len(next) > 0 && next[0].Rule == x.Rule && slices.Equal(next[0].Binds, x.Binds) {
			l, next = append(l, i), next[1:]
		}
	}
	return l
}

// isCore returns a test for sets that are minimal among those that are not satisfiable.
func isCore(satisfiable func(belongs func(i int) bool) bool) func(set []int) bool {
	return func(set []int) bool {
		if satisfiable(member(set)) {
			return false
		}
		return !slices.ContainsFunc(set, func(spared int) bool {
			return !satisfiable(func(i int) bool { return i != spared && member(set)(i) })
		})
	}
}

// isFix returns a test for sets that are minimal among those without which the others are satisfiable.
func isFix(satisfiable func(belongs func(i int) bool) bool, hard func(i int) bool) func(set []int) bool {
	return func(set []int) bool {
		outside := func(i int) bool { return hard(i) && !member(set)(i) }
		if !satisfiable(outside) {
			return false
		}
		return !slices.ContainsFunc(set, func(added int) bool {
			return satisfiable(func(i int) bool { return i == added || outside(i) })
		})
	}
}

// member returns a test for the numbers in an increasing list.
func member(set []int) func(i int) bool {
	return func(i int) bool {
		_, found := slices.BinarySearch(set, i)
		return found
	}
}

// dual reports whether the minimal hitting sets of l, unless they are too many to tell, are the given ones.
func dual(l, hits [][]int) bool {
	found, e := hit.Hits(l)
	return e != api.OK || slices.EqualFunc(found, hits, slices.Equal)
}
