package eval_test

import (
	"fmt"
	"math/rand/v2"
	"slices"
	"testing"

	"chalkline/api"
	"chalkline/eval"
)

// random makes a formula that is well-typed under the binds of scope; places tells whether it may speak of at and in.
func random(r *rand.Rand, scope []api.Bind, depth int, places bool) api.Form {
	of := func(sort int) (api.Term, bool) {
		var l []string
		for _, b := range scope {
			if b.Sort == sort {
				l = append(l, b.Name)
			}
		}
		if len(l) == 0 {
			return api.Term{}, false
		}
		return api.Term{Kind: api.VarT, Name: l[r.IntN(len(l))]}, true
	}
	quantifier := func() api.Form {
		f := api.Form{Kind: api.AllF + r.IntN(4)}
		inner := slices.Clone(scope)
		for range 1 + r.IntN(2) {
			b := api.Bind{Name: fmt.Sprint("v", len(inner)), Sort: 1 + r.IntN(7)}
			if r.IntN(2) == 0 {
				b.Sort = 1 + r.IntN(3)
			}
			f.Binds, inner = append(f.Binds, b), append(inner, b)
		}
		if f.Kind >= api.LeastF {
			f.N = r.IntN(6)
		}
		f.L = []api.Form{random(r, inner, depth-1, places)}
		return f
	}
	if depth > 1 && (len(scope) == 0 || r.IntN(3) == 0) && len(scope) < 6 {
		return quantifier()
	}
	if depth > 1 && r.IntN(2) == 0 {
		f := api.Form{Kind: api.NotF + r.IntN(4)}
		f.L = append(f.L, random(r, scope, depth-1, places))
		if f.Kind != api.NotF {
			f.L = append(f.L, random(r, scope, depth-1, places))
		}
		return f
	}
	for range 20 {
		kind := api.AtF + r.IntN(7)
		if kind == api.CmpF {
			if f, ok := comparison(r, of); ok {
				return f
			}
			continue
		}
		if kind <= api.InF && !places {
			continue
		}
		x := [][2]int{{1, 2}, {1, 3}, {4, 1}, {5, 1}, {4, 2}, {3, 2}}[kind-api.AtF]
		a, ok := of(x[0])
		b, fine := of(x[1])
		if ok && fine {
			return api.Form{Kind: kind, Terms: []api.Term{a, b}}
		}
	}
	return api.Form{Kind: api.TrueF + r.IntN(2)}
}

// comparison makes a well-typed comparison of terms that of finds.
func comparison(r *rand.Rand, of func(int) (api.Term, bool)) (api.Form, bool) {
	term := func(want int) (api.Term, bool) {
		kinds := map[int][][2]int{
			api.NumS: {{api.NumT, 0}, {api.HourT, api.SlotS}, {api.SeatsT, api.RoomS}, {api.SizeT, api.LessonS}}, api.DayS: {{api.DayT, api.SlotS}, {api.VarT, api.DayS}}, api.HouseS: {{api.HouseT, api.RoomS}, {api.VarT, api.HouseS}},
		}[want]
		if kinds == nil {
			return of(want)
		}
		k := kinds[r.IntN(len(kinds))]
		if k[0] == api.NumT {
			return api.Term{Kind: api.NumT, N: r.IntN(25)}, true
		}
		t, ok := of(k[1])
		t.Kind = k[0]
		return t, ok
	}
	sort := 1 + r.IntN(8)
	a, ok := term(sort)
	b, fine := term(sort)
	ops := []string{"=", "!=", "<", "<=", ">", ">="}
	if sort != api.NumS && sort != api.SlotS && sort != api.DayS {
		ops = ops[:2]
	}
	return api.Form{Kind: api.CmpF, Name: ops[r.IntN(len(ops))], Terms: []api.Term{a, b}}, ok && fine
}

// world is a slow second evaluator, made of the chapter's words.
type world struct {
	s api.School
	w api.Week
}

func (x world) count(sort int) int {
	return []int{0, len(x.s.Lessons), len(x.s.Slots), len(x.s.Rooms), len(x.s.People), len(x.s.Groups), 7, 8, 0}[sort]
}

func (x world) tuples(binds []api.Bind) [][]int {
	l := [][]int{nil}
	for _, b := range binds {
		var more [][]int
		for _, t := range l {
			for i := range x.count(b.Sort) {
				more = append(more, append(slices.Clone(t), i))
			}
		}
		l = more
	}
	return l
}

func (x world) value(env map[string]int, sorts map[string]int, t api.Term) int {
	at := env[t.Name]
	switch t.Kind {
	case api.NumT:
		return t.N
	case api.DayT:
		return x.s.Slots[at].Day
	case api.HourT:
		return x.s.Slots[at].Hour
	case api.HouseT:
		return x.s.Rooms[at].House
	case api.SeatsT:
		return x.s.Rooms[at].Seats
	case api.SizeT:
		n := 0
		for _, g := range x.s.Lessons[at].Groups {
			n += x.s.Groups[g].Size
		}
		return n
	}
	if sorts[t.Name] == api.SlotS {
		return 12*x.s.Slots[at].Day + x.s.Slots[at].Hour
	}
	return at
}

func (x world) holds(env, sorts map[string]int, f api.Form) bool {
	at := func(i int) int { return env[f.Terms[i].Name] }
	sub := func(i int) bool { return x.holds(env, sorts, f.L[i]) }
	switch f.Kind {
	case api.TrueF:
		return true
	case api.FalseF:
		return false
	case api.AtF:
		return x.w.L[at(0)].Slot == at(1)
	case api.InF:
		return x.w.L[at(0)].Room == at(1)
	case api.TeachesF:
		return slices.Contains(x.s.Lessons[at(1)].Who, at(0))
	case api.AttendsF:
		return slices.Contains(x.s.Lessons[at(1)].Groups, at(0))
	case api.AwayF:
		return slices.Contains(x.s.People[at(0)].Away, at(1))
	case api.ShutF:
		return slices.Contains(x.s.Rooms[at(0)].Shut, at(1))
	case api.CmpF:
		a, b := x.value(env, sorts, f.Terms[0]), x.value(env, sorts, f.Terms[1])
		return map[string]bool{"=": a == b, "!=": a != b, "<": a < b, "<=": a <= b, ">": a > b, ">=": a >= b}[f.Name]
	case api.NotF:
		return !sub(0)
	case api.AndF:
		return sub(0) && sub(1)
	case api.OrF:
		return sub(0) || sub(1)
	case api.ImpF:
		return !sub(0) || sub(1)
	}
	n, all := 0, x.tuples(f.Binds)
	for _, t := range all {
		if x.with(env, sorts, f.Binds, t, f.L[0]) {
			n++
		}
	}
	return map[int]bool{api.AllF: n == len(all), api.SomeF: n > 0, api.LeastF: n >= f.N, api.MostF: n <= f.N}[f.Kind]
}

// with tells whether f holds if the binds are bound to a tuple besides.
func (x world) with(env, sorts map[string]int, binds []api.Bind, t []int, f api.Form) bool {
	e, o := map[string]int{}, map[string]int{}
	for n, v := range env {
		e[n], o[n] = v, sorts[n]
	}
	for i, b := range binds {
		e[b.Name], o[b.Name] = t[i], b.Sort
	}
	return x.holds(e, o, f)
}

// randomSchool makes a small school with random relations.
func randomSchool(r *rand.Rand) api.School {
	s := plain(r.IntN(4), 1+r.IntN(4), 1+r.IntN(3), r.IntN(3), r.IntN(3))
	some := func(n int) (l []int) {
		for i := range n {
			if r.IntN(2) == 0 {
				l = append(l, i)
			}
		}
		return l
	}
	for i, h := range r.Perm(84)[:len(s.Slots)] {
		s.Slots[i].Day, s.Slots[i].Hour = h/12, h%12
	}
	for i := range s.Rooms {
		s.Rooms[i].House, s.Rooms[i].Seats, s.Rooms[i].Shut = r.IntN(8), r.IntN(30), some(len(s.Slots))
	}
	for i := range s.People {
		s.People[i].Away = some(len(s.Slots))
	}
	for i := range s.Groups {
		s.Groups[i].Size = r.IntN(20)
	}
	for i := range s.Lessons {
		s.Lessons[i].Who, s.Lessons[i].Groups = some(len(s.People)), some(len(s.Groups))
	}
	return s
}

func randomWeek(r *rand.Rand, s api.School) api.Week {
	w := zero(s)
	for i := range w.L {
		w.L[i] = api.Place{Slot: r.IntN(len(s.Slots)), Room: r.IntN(len(s.Rooms))}
	}
	return w
}

func TestHoldsAgainstTheOracle(t *testing.T) {
	r := rand.New(rand.NewPCG(3, 3))
	yes := 0
	for range 3000 {
		s := randomSchool(r)
		w := randomWeek(r, s)
		var env []api.Env
		var scope []api.Bind
		at, sorts := map[string]int{}, map[string]int{}
		for range r.IntN(4) {
			b := api.Bind{Name: fmt.Sprint("v", len(scope)), Sort: 1 + r.IntN(7)}
			n := world{s, w}.count(b.Sort)
			if n == 0 {
				continue
			}
			x := api.Env{Name: b.Name, Sort: b.Sort, At: r.IntN(n)}
			env, scope = append(env, x), append(scope, b)
			at[b.Name], sorts[b.Name] = x.At, b.Sort
		}
		f := random(r, scope, 5, true)
		want := world{s, w}.holds(at, sorts, f)
		if want {
			yes++
		}
		if ok, e := eval.Holds(s, w, env, f); ok != want || e != api.OK {
			t.Fatalf("%+v %+v %+v %+v: %v, %d", s, w, env, f, ok, e)
		}
	}
	if yes < 500 || yes > 2500 {
		t.Error("of 3000 formulas hold", yes)
	}
}

func TestBrokenAndJudgeAgainstTheOracle(t *testing.T) {
	r := rand.New(rand.NewPCG(4, 4))
	found := 0
	for range 500 {
		s := randomSchool(r)
		w := randomWeek(r, s)
		x := world{s, w}
		var l []api.Rule
		var want []api.Inst
		hard, cost := 0, 0
		for i := range r.IntN(4) {
			rule := api.Rule{Name: fmt.Sprint("r", i), Hard: r.IntN(2) == 0}
			if !rule.Hard {
				rule.Weight = 1 + r.IntN(9)
			}
			for k := range r.IntN(3) {
				rule.Each = append(rule.Each, api.Bind{Name: fmt.Sprint("v", k), Sort: 1 + r.IntN(7)})
			}
			rule.Body = random(r, rule.Each, 4, true)
			for _, t := range x.tuples(rule.Each) {
				if !x.with(nil, nil, rule.Each, t, rule.Body) {
					want = append(want, api.Inst{Rule: i, Binds: t})
					if cost += rule.Weight; rule.Hard {
						hard++
					}
				}
			}
			l = append(l, rule)
			if got, e := eval.Insts(s, rule); e != api.OK || !slices.EqualFunc(got, x.tuples(rule.Each), slices.Equal) {
				t.Fatal(got, e)
			}
		}
		got, e := eval.Broken(s, w, l)
		if e != api.OK || fmt.Sprint(got) != fmt.Sprint(want) {
			t.Fatalf("%+v %+v %+v: %v, %d; want %v", s, w, l, got, e, want)
		}
		if h, c, e := eval.Judge(s, w, l); h != hard || c != cost || e != api.OK {
			t.Fatal(h, c, e, hard, cost)
		}
		found += len(want)
	}
	if found < 500 {
		t.Error("only", found, "violations")
	}
}
