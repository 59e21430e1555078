package why_test

import (
	"fmt"
	"reflect"
	"slices"
	"testing"

	"chalkline/api"
	"chalkline/eval"
	"chalkline/ground"
	"chalkline/hit"
	"chalkline/sample"
	"chalkline/week"
	"chalkline/why"
)

const (
	far    = 1<<63 - 1
	most   = 1 << 40
	enough = 1 << 30
)

// world tells what can be found out about a school and its rules by trying all weeks.
type world struct {
	s     api.School
	weeks []api.Week
	holds []map[int]bool // for each week the hard instances that hold
	hard  []int
}

func newWorld(t *testing.T, s api.School, l []api.Rule) world {
	weeks, e1 := week.All(s, 1000)
	insts, e2 := ground.All(s, l)
	if e1 != api.OK || e2 != api.OK {
		t.Fatal(e1, e2)
	}
	x := world{s: s, weeks: weeks}
	for i, inst := range insts {
		if l[inst.Rule].Hard {
			x.hard = append(x.hard, i)
		}
	}
	for _, w := range weeks {
		holds := map[int]bool{}
		for _, i := range x.hard {
			var env []api.Env
			for k, b := range l[insts[i].Rule].Each {
				env = append(env, api.Env{Name: b.Name, Sort: b.Sort, At: insts[i].Binds[k]})
			}
			ok, e := eval.Holds(s, w, env, l[insts[i].Rule].Body)
			if holds[i] = ok; e != api.OK {
				t.Fatal(e)
			}
		}
		x.holds = append(x.holds, holds)
	}
	return x
}

// admissible tells whether the literals are true in a week.
func (x world) admissible(w api.Week, fix []int) bool {
	a, _ := week.True(x.s, w)
	return !slices.ContainsFunc(fix, func(lit int) bool { return a[max(lit, -lit)] != (lit > 0) })
}

// satisfiable tells whether all instances of a set hold in an admissible week.
func (x world) satisfiable(set, fix []int) bool {
	for k, w := range x.weeks {
		if x.admissible(w, fix) && !slices.ContainsFunc(set, func(i int) bool { return !x.holds[k][i] }) {
			return true
		}
	}
	return false
}

// minimal tells whether a property holds for a set, and for none with one element less.
func minimal(set []int, has func(set []int) bool) bool {
	for i := range set {
		if has(slices.Delete(slices.Clone(set), i, i+1)) {
			return false
		}
	}
	return has(set)
}

func (x world) isCore(set, fix []int) bool {
	return minimal(set, func(set []int) bool { return !x.satisfiable(set, fix) })
}

func (x world) isFix(set []int) bool {
	return minimal(set, func(set []int) bool {
		return x.satisfiable(slices.DeleteFunc(slices.Clone(x.hard), func(i int) bool { return slices.Contains(set, i) }), nil)
	})
}

// sets returns the subsets of the hard instances with a property, in order.
func (x world) sets(has func(set []int) bool) (l [][]int) {
	for bits := range 1 << len(x.hard) {
		var set []int
		for k, i := range x.hard {
			if bits>>k&1 == 1 {
				set = append(set, i)
			}
		}
		if has(set) {
			l = append(l, set)
		}
	}
	slices.SortFunc(l, slices.Compare)
	return l
}

func increasing(l []int) bool {
	return slices.IsSorted(l) && len(slices.Compact(slices.Clone(l))) == len(l)
}

func clash() (api.School, []api.Rule) {
	return sample.Plain(2, 1, 1, 0, 0), sample.Rules("soft nice 4: false; hard clash each s: slot, r: room: most 1 l: lesson (at(l, s) & in(l, r)); soft good 2: true; hard x: false;")
}

func TestTheExampleOfTheChapter(t *testing.T) {
	s, l := clash()
	y, e := why.Why(s, l, enough)
	if e != api.OK || y.Kind != api.YesA || fmt.Sprint(y.Cores) != "[[1] [3]]" || fmt.Sprint(y.Fixes) != "[[1 3]]" {
		t.Error(y, e)
	}
	kind, w, core, e := why.What(s, l, []int{1}, enough)
	if e != api.OK || kind != api.NoA || len(w.L) > 0 || len(core) != 1 || core[0] != 1 && core[0] != 3 {
		t.Error(kind, w, core, e)
	}
}

func TestWhatIf(t *testing.T) {
	s := sample.Plain(2, 2, 1, 0, 0)
	l := sample.Rules("hard clash each s: slot, r: room: most 1 l: lesson (at(l, s) & in(l, r)); hard first each l: lesson: l = l;")
	for i, x := range []struct {
		fix  []int
		kind int
		w    api.Week
		core string
	}{
		{[]int{1}, api.YesA, sample.Week(0, 0, 1, 0), "[]"}, {[]int{-1}, api.YesA, sample.Week(1, 0, 0, 0), "[]"}, {[]int{4}, api.YesA, sample.Week(0, 0, 1, 0), "[]"}, {[]int{5, -4}, api.YesA, sample.Week(1, 0, 0, 0), "[]"}, {[]int{1, 3}, api.NoA, api.Week{}, "[0]"}, {[]int{2, 4}, api.NoA, api.Week{}, "[1]"}, {[]int{1, 2}, api.NoA, api.Week{}, "[]"}, {[]int{-5}, api.NoA, api.Week{}, "[]"}, {[]int{-1, -2, 3}, api.NoA, api.Week{}, "[]"},
		{[]int{1, -2, -3, 4, 5, 6}, api.YesA, sample.Week(0, 0, 1, 0), "[]"}, {[]int{1, -2, 3, -4, 5, 6}, api.NoA, api.Week{}, "[0]"},
	} {
		kind, w, core, e := why.What(s, l, x.fix, enough)
		if e != api.OK || kind != x.kind || !slices.Equal(w.L, x.w.L) || fmt.Sprint(core) != x.core {
			t.Errorf("%d: %d, %v, %v, %d", i, kind, w, core, e)
		}
	}
}

func TestErrors(t *testing.T) {
	s, l := clash()
	twice := append(sample.Rules("hard a: true;"), sample.Rules("hard a: true;")...)
	for i, x := range []struct {
		s      api.School
		l      []api.Rule
		fix    []int
		budget int
		e      api.Errno
	}{
		{s, l, nil, 0, api.OK}, {s, l, nil, most, api.OK}, {s, l, nil, -1, api.ErrArg}, {s, l, nil, most + 1, api.ErrArg}, {s, l, nil, far, api.ErrArg}, {s, l, nil, -far - 1, api.ErrArg}, {api.School{}, l, nil, -1, api.ErrArg}, {sample.Plain(65, 1, 1, 0, 0), l, []int{0}, -1, api.ErrBound}, {s, twice, nil, 5, api.ErrArg}, {s, []api.Rule{{Name: "a", Hard: true, Body: sample.Form("x = y")}}, []int{0}, -1, api.ErrVar},
		{s, l, []int{4, -1}, 5, api.OK}, {s, l, []int{0}, 5, api.ErrArg}, {s, l, []int{5}, 5, api.ErrArg}, {s, l, []int{-5}, 5, api.ErrArg}, {s, l, []int{1, 1}, 5, api.ErrArg}, {s, l, []int{1, 2, -1}, 5, api.ErrArg}, {s, l, []int{far}, 5, api.ErrArg}, {s, l, []int{-far - 1}, 5, api.ErrArg},
	} {
		if kind, w, core, e := why.What(x.s, x.l, x.fix, x.budget); e != x.e || e != api.OK && (kind != 0 || len(w.L)+len(core) > 0) {
			t.Errorf("%d: What reports %d, want %d", i, e, x.e)
		}
		if len(x.fix) == 0 {
			if y, e := why.Why(x.s, x.l, x.budget); e != x.e || e != api.OK && !reflect.DeepEqual(y, api.Why{}) {
				t.Errorf("%d: Why reports %d, want %d", i, e, x.e)
			}
		}
	}
}

// tight makes a school with at most 16 weeks, and rules with at most 8 hard instances that often contradict each other.
func tight(r *sample.Source) (api.School, []api.Rule) {
	for {
		shape := [][3]int{{1, 3, 2}, {2, 2, 2}, {2, 2, 1}, {2, 4, 1}, {4, 2, 1}, {3, 2, 1}, {1, 4, 4}, {0, 2, 2}}[r.Below(8)]
		s := r.School(shape[0], shape[1], shape[2])
		l := r.Rules(2+r.Below(4), 3)
		insts, e := ground.All(s, l)
		hard := 0
		for _, i := range insts {
			if l[i.Rule].Hard {
				hard++
			}
		}
		if e == api.OK && hard > 0 && hard <= 8 {
			return s, l
		}
	}
}

func TestWhyOfRandomSchools(t *testing.T) {
	r := sample.New(1)
	kinds, contradictions := map[int]int{}, 0
	for range 600 {
		s, l := tight(r)
		x := newWorld(t, s, l)
		budget := []int{0, 1, 3, enough, enough, enough}[r.Below(6)]
		old := fmt.Sprint(s, l)
		y, e := why.Why(s, l, budget)
		if kinds[y.Kind]++; e != api.OK || fmt.Sprint(s, l) != old {
			t.Fatal(e)
		}
		switch y.Kind {
		case api.YesA:
			cores := x.sets(func(set []int) bool { return x.isCore(set, nil) })
			fixes := x.sets(x.isFix)
			if fmt.Sprint(y.Cores, y.Fixes) != fmt.Sprint(cores, fixes) {
				t.Fatal(s, l, y, cores, fixes)
			}
			if len(cores) > 1 {
				contradictions++
			}
			a, e1 := hit.Hits(y.Cores)
			b, e2 := hit.Hits(y.Fixes)
			if e1 == api.OK && fmt.Sprint(a) != fmt.Sprint(y.Fixes) || e2 == api.OK && fmt.Sprint(b) != fmt.Sprint(y.Cores) {
				t.Fatal(y, a, b)
			}
		case api.OutA:
			bad := func(set []int) bool { return !increasing(set) || !x.isCore(set, nil) }
			worse := func(set []int) bool { return !increasing(set) || !x.isFix(set) }
			if budget == enough || slices.ContainsFunc(y.Cores, bad) || slices.ContainsFunc(y.Fixes, worse) || !sorted(y.Cores) || !sorted(y.Fixes) {
				t.Fatal(s, l, budget, y)
			}
		default:
			t.Fatal(y)
		}
	}
	if kinds[api.YesA] < 300 || contradictions < 40 {
		t.Error(kinds, contradictions)
	}
}

func sorted(l [][]int) bool {
	for i := 1; i < len(l); i++ {
		if slices.Compare(l[i-1], l[i]) >= 0 {
			return false
		}
	}
	return true
}

func TestWhatOfRandomSchools(t *testing.T) {
	r := sample.New(2)
	kinds := map[int]int{}
	for range 600 {
		s, l := tight(r)
		x := newWorld(t, s, l)
		var fix []int
		if w := x.weeks[r.Below(len(x.weeks))]; r.Chance(4) {
			// A whole week.
			a, _ := week.True(s, w)
			for v := 1; v < len(a); v++ {
				fix = append(fix, map[bool]int{true: v, false: -v}[a[v]])
			}
		} else {
			for v := 1; v <= week.Vars(s); v++ {
				if k := r.Below(8); k < 2 {
					fix = append(fix, v*(2*k-1))
				}
			}
		}
		budget := []int{0, 1, 3, enough, enough, enough}[r.Below(6)]
		kind, w, core, e := why.What(s, l, fix, budget)
		if kinds[kind]++; e != api.OK {
			t.Fatal(e)
		}
		switch kind {
		case api.YesA:
			k := slices.IndexFunc(x.weeks, func(v api.Week) bool { return slices.Equal(v.L, w.L) })
			if k < 0 || !x.admissible(w, fix) || slices.ContainsFunc(x.hard, func(i int) bool { return !x.holds[k][i] }) || len(core) > 0 {
				t.Fatal(s, l, fix, w, core)
			}
		case api.NoA:
			if !increasing(core) || !x.isCore(core, fix) || len(w.L) > 0 || slices.ContainsFunc(core, func(i int) bool { return !slices.Contains(x.hard, i) }) {
				t.Fatal(s, l, fix, w, core)
			}
		case api.OutA:
			if budget == enough || len(w.L) > 0 || !increasing(core) || len(core) > 0 && x.satisfiable(core, fix) {
				t.Fatal(s, l, fix, budget, w, core)
			}
		default:
			t.Fatal(kind)
		}
	}
	if kinds[api.YesA] < 80 || kinds[api.NoA] < 80 {
		t.Error(kinds)
	}
}
