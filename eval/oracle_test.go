package eval_test

import (
	"fmt"
	"slices"
	"testing"

	"chalkline/api"
	"chalkline/eval"
	"chalkline/sample"
)

// world is a slow second evaluator, made of the chapter's words.
type world struct {
	s api.School
	w api.Week
}

func (x world) count(sort int) int {
	return []int{0, len(x.s.Lessons), len(x.s.Slots), len(x.s.Rooms), len(x.s.People), len(x.s.Groups), 7, 8, 0}[sort]
}

func (x world) tuples(binds []api.Bind) [][]int {
	l := [][]int{nil}
	for _, b := range binds {
		var more [][]int
		for _, t := range l {
			for i := range x.count(b.Sort) {
				more = append(more, append(slices.Clone(t), i))
			}
		}
		l = more
	}
	return l
}

func (x world) value(env map[string]int, sorts map[string]int, t api.Term) int {
	at := env[t.Name]
	switch t.Kind {
	case api.NumT:
		return t.N
	case api.DayT:
		return x.s.Slots[at].Day
	case api.HourT:
		return x.s.Slots[at].Hour
	case api.HouseT:
		return x.s.Rooms[at].House
	case api.SeatsT:
		return x.s.Rooms[at].Seats
	case api.SizeT:
		n := 0
		for _, g := range x.s.Lessons[at].Groups {
			n += x.s.Groups[g].Size
		}
		return n
	}
	if sorts[t.Name] == api.SlotS {
		return 12*x.s.Slots[at].Day + x.s.Slots[at].Hour
	}
	return at
}

func (x world) holds(env, sorts map[string]int, f api.Form) bool {
	at := func(i int) int { return env[f.Terms[i].Name] }
	sub := func(i int) bool { return x.holds(env, sorts, f.L[i]) }
	switch f.Kind {
	case api.TrueF:
		return true
	case api.FalseF:
		return false
	case api.AtF:
		return x.w.L[at(0)].Slot == at(1)
	case api.InF:
		return x.w.L[at(0)].Room == at(1)
	case api.TeachesF:
		return slices.Contains(x.s.Lessons[at(1)].Who, at(0))
	case api.AttendsF:
		return slices.Contains(x.s.Lessons[at(1)].Groups, at(0))
	case api.AwayF:
		return slices.Contains(x.s.People[at(0)].Away, at(1))
	case api.ShutF:
		return slices.Contains(x.s.Rooms[at(0)].Shut, at(1))
	case api.CmpF:
		a, b := x.value(env, sorts, f.Terms[0]), x.value(env, sorts, f.Terms[1])
		return map[string]bool{"=": a == b, "!=": a != b, "<": a < b, "<=": a <= b, ">": a > b, ">=": a >= b}[f.Name]
	case api.NotF:
		return !sub(0)
	case api.AndF:
		return sub(0) && sub(1)
	case api.OrF:
		return sub(0) || sub(1)
	case api.ImpF:
		return !sub(0) || sub(1)
	}
	n, all := 0, x.tuples(f.Binds)
	for _, t := range all {
		if x.with(env, sorts, f.Binds, t, f.L[0]) {
			n++
		}
	}
	return map[int]bool{api.AllF: n == len(all), api.SomeF: n > 0, api.LeastF: n >= f.N, api.MostF: n <= f.N}[f.Kind]
}

// with tells whether f holds if the binds are bound to a tuple besides.
func (x world) with(env, sorts map[string]int, binds []api.Bind, t []int, f api.Form) bool {
	e, o := map[string]int{}, map[string]int{}
	for n, v := range env {
		e[n], o[n] = v, sorts[n]
	}
	for i, b := range binds {
		e[b.Name], o[b.Name] = t[i], b.Sort
	}
	return x.holds(e, o, f)
}

// randomSchool makes a small school with random relations.
func randomSchool(r *sample.Source) api.School {
	return r.School(r.Below(4), 1+r.Below(4), 1+r.Below(3))
}

func TestHoldsAgainstTheOracle(t *testing.T) {
	r := sample.New(3)
	yes := 0
	for range 3000 {
		s := randomSchool(r)
		w := r.Week(s)
		var env []api.Env
		var scope []api.Bind
		at, sorts := map[string]int{}, map[string]int{}
		for range r.Below(4) {
			b := api.Bind{Name: fmt.Sprint("v", len(scope)), Sort: 1 + r.Below(7)}
			n := world{s, w}.count(b.Sort)
			if n == 0 {
				continue
			}
			x := api.Env{Name: b.Name, Sort: b.Sort, At: r.Below(n)}
			env, scope = append(env, x), append(scope, b)
			at[b.Name], sorts[b.Name] = x.At, b.Sort
		}
		f := r.Form(scope, 5)
		want := world{s, w}.holds(at, sorts, f)
		if want {
			yes++
		}
		if ok, e := eval.Holds(s, w, env, f); ok != want || e != api.OK {
			t.Fatalf("%+v %+v %+v %+v: %v, %d", s, w, env, f, ok, e)
		}
	}
	if yes < 500 || yes > 2500 {
		t.Error("of 3000 formulas hold", yes)
	}
}

func TestBrokenAndJudgeAgainstTheOracle(t *testing.T) {
	r := sample.New(4)
	found := 0
	for range 500 {
		s := randomSchool(r)
		w := r.Week(s)
		x := world{s, w}
		var want []api.Inst
		hard, cost := 0, 0
		l := r.Rules(r.Below(4), 4)
		for i, rule := range l {
			for _, t := range x.tuples(rule.Each) {
				if !x.with(nil, nil, rule.Each, t, rule.Body) {
					want = append(want, api.Inst{Rule: i, Binds: t})
					if cost += rule.Weight; rule.Hard {
						hard++
					}
				}
			}
			if got, e := eval.Insts(s, rule); e != api.OK || !slices.EqualFunc(got, x.tuples(rule.Each), slices.Equal) {
				t.Fatal(got, e)
			}
		}
		got, e := eval.Broken(s, w, l)
		if e != api.OK || fmt.Sprint(got) != fmt.Sprint(want) {
			t.Fatalf("%+v %+v %+v: %v, %d; want %v", s, w, l, got, e, want)
		}
		if h, c, e := eval.Judge(s, w, l); h != hard || c != cost || e != api.OK {
			t.Fatal(h, c, e, hard, cost)
		}
		found += len(want)
	}
	if found < 500 {
		t.Error("only", found, "violations")
	}
}
