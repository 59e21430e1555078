package types_test

import (
	"fmt"
	"math/rand/v2"
	"slices"
	"strings"
	"testing"

	"chalkline/api"
	"chalkline/formula"
	"chalkline/syntax"
	"chalkline/types"
)

// env binds the variables v1 to v7 to the sorts 1 to 7, and l, s, r, p, g, d and h as well.
func env() []api.Bind {
	var l []api.Bind
	for i, n := range "lsrpgdh" {
		l = append(l, api.Bind{Name: fmt.Sprint("v", i+1), Sort: i + 1}, api.Bind{Name: string(n), Sort: i + 1})
	}
	return l
}

// form parses a formula, which must be one.
func form(src string) api.Form {
	f, at, e := syntax.Form([]byte(src))
	if e != api.OK {
		panic(fmt.Sprint(src, at, e))
	}
	return f
}

func v(kind int, name string) api.Term { return api.Term{Kind: kind, Name: name} }

// invalidEnvs are environments that are not valid.
var invalidEnvs = [][]api.Bind{
	{{Name: "", Sort: 1}}, {{Name: "A", Sort: 1}}, {{Name: "slot", Sort: 1}}, {{Name: strings.Repeat("x", 65), Sort: 1}},
	{{Name: "x", Sort: 0}}, {{Name: "x", Sort: 8}}, {{Name: "x", Sort: -1}}, {{Name: "x", Sort: 1 << 62}},
	{{Name: "x", Sort: 1}, {Name: "x", Sort: 1}}, {{Name: "x", Sort: 1}, {Name: "y", Sort: 2}, {Name: "x", Sort: 3}},
	{{Name: "x", Sort: 1}, {Name: "y", Sort: 8}},
}

func TestTerm(t *testing.T) {
	// What a term needs, and what it is: 0 stands for any sort, or the variable's.
	for kind, x := range map[int][2]int{
		api.VarT: {0, 0}, api.DayT: {api.SlotS, api.DayS}, api.HourT: {api.SlotS, api.NumS},
		api.HouseT: {api.RoomS, api.HouseS}, api.SeatsT: {api.RoomS, api.NumS}, api.SizeT: {api.LessonS, api.NumS},
	} {
		for sort := api.LessonS; sort <= api.HouseS; sort++ {
			want, wantE := x[1], api.OK
			if x[0] == 0 {
				want = sort
			} else if x[0] != sort {
				want, wantE = 0, api.ErrSort
			}
			if got, e := types.Term(env(), v(kind, fmt.Sprint("v", sort))); got != want || e != wantE {
				t.Errorf("Term of kind %d and sort %d: %d, %d", kind, sort, got, e)
			}
		}
		for _, n := range []string{"x", "v8", "ll"} {
			if got, e := types.Term(env(), v(kind, n)); got != 0 || e != api.ErrVar {
				t.Errorf("Term of kind %d and no variable: %d, %d", kind, got, e)
			}
		}
	}
	for _, n := range []int{0, 1, api.MaxNum} {
		if got, e := types.Term(nil, api.Term{Kind: api.NumT, N: n}); got != api.NumS || e != api.OK {
			t.Error(n, got, e)
		}
	}
}

func TestTermErrors(t *testing.T) {
	for i, x := range []api.Term{
		{}, {Kind: api.NumT, N: -1}, {Kind: api.NumT, N: api.MaxNum + 1}, {Kind: api.NumT, Name: "l"}, {Kind: api.VarT}, {Kind: api.VarT, Name: "l", N: 1},
		{Kind: 8, Name: "l"}, {Kind: -1, Name: "l"}, {Kind: api.VarT, Name: "L"}, {Kind: api.DayT, Name: "day"}, {Kind: 1 << 62, Name: "l"}, {Kind: api.SizeT, Name: "zz", N: 2},
	} {
		if got, e := types.Term(env(), x); got != 0 || e != api.ErrArg {
			t.Errorf("%d: %d, %d", i, got, e)
		}
	}
	for i, x := range invalidEnvs {
		for _, y := range []api.Term{{Kind: api.NumT}, v(api.VarT, "x"), v(api.VarT, "zz")} {
			if got, e := types.Term(x, y); got != 0 || e != api.ErrArg {
				t.Errorf("environment %d: %d, %d", i, got, e)
			}
		}
		for _, f := range []string{"true", "zz = 1"} {
			if e := types.Form(x, form(f)); e != api.ErrArg {
				t.Errorf("environment %d: Form reports %d", i, e)
			}
		}
	}
}

func TestAtoms(t *testing.T) {
	for word, want := range map[string][2]int{
		"at": {api.LessonS, api.SlotS}, "in": {api.LessonS, api.RoomS}, "teaches": {api.PersonS, api.LessonS},
		"attends": {api.GroupS, api.LessonS}, "away": {api.PersonS, api.SlotS}, "shut": {api.RoomS, api.SlotS},
	} {
		for a := 1; a <= 8; a++ {
			for b := 1; b <= 8; b++ {
				// The variable v8 is not bound.
				e := types.Form(env(), form(fmt.Sprintf("%s(v%d, v%d)", word, a, b)))
				wantE := api.OK
				switch {
				case a == 8:
					wantE = api.ErrVar
				case a != want[0]:
					wantE = api.ErrSort
				case b == 8:
					wantE = api.ErrVar
				case b != want[1]:
					wantE = api.ErrSort
				}
				if e != wantE {
					t.Errorf("%s(v%d, v%d): %d, want %d", word, a, b, e, wantE)
				}
			}
		}
	}
}

func TestComparisons(t *testing.T) {
	// The terms and their sorts; a term of sort 0 is not bound, and one of sort -1 is ill-typed.
	terms := map[string]int{"3": 8, "hour(s)": 8, "seats(r)": 8, "size(l)": 8, "day(s)": 6, "house(r)": 7, "x": 0, "hour(x)": 0, "hour(l)": -1, "house(s)": -1}
	for _, b := range env() {
		terms[b.Name] = b.Sort
	}
	for _, op := range []string{"=", "!=", "<", "<=", ">", ">="} {
		for a, x := range terms {
			for b, y := range terms {
				want := api.OK
				switch {
				case x == 0 || x > 0 && y == 0:
					want = api.ErrVar
				case x < 0 || y < 0 || x != y:
					want = api.ErrSort
				case len(op) > 0 && op != "=" && op != "!=" && x != 8 && x != 2 && x != 6:
					want = api.ErrSort
				}
				if e := types.Form(env(), form(a+" "+op+" "+b)); e != want {
					t.Errorf("%s %s %s: %d, want %d", a, op, b, e, want)
				}
			}
		}
	}
}

func TestFormsInOrder(t *testing.T) {
	for src, want := range map[string]api.Errno{
		"true": api.OK, "false": api.OK, "!true": api.OK, "at(l, s)": api.OK, "at(s, l)": api.ErrSort, "at(l, t)": api.ErrVar, "day(s) = 1": api.ErrSort, "hour(s) < 3": api.OK,
		"all s: slot (true)": api.ErrTwice, "all t: slot (at(l, t))": api.OK, "some t: room (at(l, t))": api.ErrSort, "least 2 t: slot, u: slot (t < u)": api.OK,
		"most 2 t: slot, t: slot (true)": api.ErrTwice, "most 2 t: slot, t: room (true)": api.ErrTwice, "all t: slot (some t: slot (true))": api.ErrTwice,
		"all t: slot (at(x, t))": api.ErrVar, "all t: slot (true) & at(l, t)": api.ErrVar, "all t: slot (true) | some t: room (in(l, t))": api.OK,
		"x = 1 & at(s, l)": api.ErrVar, "at(s, l) & x = 1": api.ErrSort, "x = 1 -> at(s, l)": api.ErrVar, "at(s, l) -> x = 1": api.ErrSort, "x = 1 | at(s, l)": api.ErrVar, "at(s, l) | x = 1": api.ErrSort,
		"!at(s, l)": api.ErrSort, "true & !at(s, l)": api.ErrSort, "all s: slot (x = 1)": api.ErrTwice, "all t: slot (x = 1) & all s: slot (true)": api.ErrVar, "all s: slot (true) & x = 1": api.ErrTwice,
		"all t: slot (all u: slot (all w: slot (t < u & u < w & w != s)))": api.OK, "some t: slot, l: lesson (true)": api.ErrTwice, "least 1 t: slot (at(l, t) & in(l, t))": api.ErrSort,
		"all a: lesson, b: slot, c: room, e: person, f: group, i: day (at(a, b) & in(a, c) & teaches(e, a) & attends(f, a) & day(b) = i & away(e, b) & shut(c, b))": api.OK,
		"all j: house (house(r) = j)": api.OK, "all j: house (house(r) < j)": api.ErrSort,
	} {
		if e := types.Form(env(), form(src)); e != want {
			t.Errorf("%s: %d, want %d", src, e, want)
		}
		if e := types.Form(env(), form("true -> (true & !("+src+"))")); e != want {
			t.Errorf("%s, inside: %d", src, e)
		}
	}
}

func TestFormChecksTheFormulaFirst(t *testing.T) {
	deep := form("true")
	for range 24 {
		deep = api.Form{Kind: api.NotF, L: []api.Form{deep}}
	}
	bad := api.Form{Kind: api.AndF, L: []api.Form{form("at(s, l)"), {}}}
	for i, x := range []struct {
		f api.Form
		e api.Errno
	}{{api.Form{}, api.ErrArg}, {deep, api.ErrBound}, {bad, api.ErrArg}, {deep.L[0], api.OK}} {
		if e := types.Form(env(), x.f); e != x.e {
			t.Errorf("%d: %d, want %d", i, e, x.e)
		}
		if e := types.Rule(api.Rule{Name: "a", Hard: true, Body: x.f}); e != x.e {
			t.Errorf("%d: Rule reports %d, want %d", i, e, x.e)
		}
	}
}

// rule is a well-typed rule.
func rule(change func(r *api.Rule)) api.Rule {
	r := api.Rule{Name: "a", Weight: 3, Each: []api.Bind{{Name: "l", Sort: api.LessonS}, {Name: "s", Sort: api.SlotS}}, Body: form("at(l, s)")}
	change(&r)
	return r
}

func TestRule(t *testing.T) {
	each := func(n int) (l []api.Bind) {
		for i := range n {
			l = append(l, api.Bind{Name: fmt.Sprint("b", i), Sort: 1 + i})
		}
		return append(l, api.Bind{Name: "l", Sort: 1}, api.Bind{Name: "s", Sort: 2})
	}
	for i, x := range []struct {
		change func(r *api.Rule)
		e      api.Errno
	}{
		{func(r *api.Rule) {}, api.OK},
		{func(r *api.Rule) { r.Hard, r.Weight = true, 0 }, api.OK}, {func(r *api.Rule) { r.Weight = 1 }, api.OK}, {func(r *api.Rule) { r.Weight = 1000 }, api.OK},
		{func(r *api.Rule) { r.Hard = true }, api.ErrArg}, {func(r *api.Rule) { r.Hard, r.Weight = true, -1 }, api.ErrArg}, {func(r *api.Rule) { r.Weight = 0 }, api.ErrArg},
		{func(r *api.Rule) { r.Weight = -1 }, api.ErrArg}, {func(r *api.Rule) { r.Weight = 1001 }, api.ErrArg}, {func(r *api.Rule) { r.Name = "" }, api.ErrArg},
		{func(r *api.Rule) { r.Name = "room" }, api.ErrArg}, {func(r *api.Rule) { r.Name = strings.Repeat("x", 65) }, api.ErrArg}, {func(r *api.Rule) { r.Name = strings.Repeat("x", 64) }, api.OK},
		{func(r *api.Rule) { r.Each = each(4) }, api.OK}, {func(r *api.Rule) { r.Each = each(5) }, api.ErrArg},
		{func(r *api.Rule) { r.Each = append(r.Each, api.Bind{Name: "x"}) }, api.ErrArg}, {func(r *api.Rule) { r.Each = append(r.Each, api.Bind{Name: "x", Sort: 8}) }, api.ErrArg},
		{func(r *api.Rule) { r.Each = append(r.Each, api.Bind{Name: "X", Sort: 1}) }, api.ErrArg},
		{func(r *api.Rule) { r.Each = append(r.Each, api.Bind{Name: "l", Sort: 1}) }, api.ErrTwice}, {func(r *api.Rule) { r.Each = append(r.Each, api.Bind{Name: "s", Sort: 3}) }, api.ErrTwice},
		{func(r *api.Rule) { r.Each = append(r.Each, api.Bind{Name: "l", Sort: 1}); r.Body = api.Form{} }, api.ErrArg},
		{func(r *api.Rule) { r.Each = append(r.Each, api.Bind{Name: "l", Sort: 1}); r.Body = form("x = 1") }, api.ErrTwice},
		{func(r *api.Rule) { r.Each = nil }, api.ErrVar}, {func(r *api.Rule) { r.Each = nil; r.Body = form("true") }, api.OK},
		{func(r *api.Rule) { r.Body = form("at(s, l)") }, api.ErrSort}, {func(r *api.Rule) { r.Body = form("some l: lesson (true)") }, api.ErrTwice},
		{func(r *api.Rule) { r.Name = "X"; r.Body = form("at(s, l)") }, api.ErrArg},
	} {
		if e := types.Rule(rule(x.change)); e != x.e {
			t.Errorf("%d: %d, want %d", i, e, x.e)
		}
	}
}

func TestRules(t *testing.T) {
	named := func(n, body string) api.Rule {
		return rule(func(r *api.Rule) { r.Name, r.Body = n, form(body) })
	}
	good, bad := "at(l, s)", "at(s, l)"
	for i, x := range []struct {
		l  []api.Rule
		at int
		e  api.Errno
	}{
		{nil, 0, api.OK}, {[]api.Rule{named("a", good)}, 0, api.OK}, {[]api.Rule{named("a", good), named("b", good)}, 0, api.OK},
		{[]api.Rule{named("a", bad), named("b", good)}, 0, api.ErrSort}, {[]api.Rule{named("a", good), named("b", bad)}, 1, api.ErrSort},
		{[]api.Rule{named("a", good), named("b", good), named("a", good)}, 2, api.ErrTwice}, {[]api.Rule{named("a", good), named("b", good), named("b", "x = 1")}, 2, api.ErrVar},
		{[]api.Rule{named("a", good), named("a", good), named("b", bad)}, 1, api.ErrTwice}, {[]api.Rule{named("a", good), named("b", bad), named("a", good)}, 1, api.ErrSort},
		{[]api.Rule{{}, {}}, 0, api.ErrArg}, {[]api.Rule{named("a", good), {}}, 1, api.ErrArg},
	} {
		if at, e := types.Rules(x.l); at != x.at || e != x.e {
			t.Errorf("%d: %d, %d; want %d, %d", i, at, e, x.at, x.e)
		}
	}
	var l []api.Rule
	for i := range 100 {
		l = append(l, named(fmt.Sprint("n", i), good))
	}
	if at, e := types.Rules(l); at != 0 || e != api.OK {
		t.Error("a hundred rules:", at, e)
	}
}

// typed makes a well-typed formula; scope is what its variables are bound to.
func typed(r *rand.Rand, scope []api.Bind, depth int) api.Form {
	kind := 1 + r.IntN(17)
	if depth == 1 || kind > api.ImpF && len(scope) > 20 {
		kind = 1 + r.IntN(9)
	}
	of := func(sort int) api.Term {
		for {
			if b := scope[r.IntN(len(scope))]; b.Sort == sort {
				return v(api.VarT, b.Name)
			}
		}
	}
	switch {
	case kind <= api.FalseF:
		return api.Form{Kind: kind}
	case kind < api.CmpF:
		x := [][2]int{{1, 2}, {1, 3}, {4, 1}, {5, 1}, {4, 2}, {3, 2}}[kind-api.AtF]
		return api.Form{Kind: kind, Terms: []api.Term{of(x[0]), of(x[1])}}
	case kind == api.CmpF:
		day := of(api.SlotS)
		day.Kind = api.DayT
		return api.Form{Kind: kind, Name: []string{"<", "=", ">="}[r.IntN(3)], Terms: []api.Term{day, of(api.DayS)}}
	case kind == api.NotF:
		return api.Form{Kind: kind, L: []api.Form{typed(r, scope, depth-1)}}
	case kind <= api.ImpF:
		return api.Form{Kind: kind, L: []api.Form{typed(r, scope, depth-1), typed(r, scope, depth-1)}}
	}
	f := api.Form{Kind: kind, Binds: []api.Bind{{Name: fmt.Sprint("n", len(scope)), Sort: 1 + r.IntN(7)}}}
	if kind >= api.LeastF {
		f.N = 1 + r.IntN(3)
	}
	f.L = []api.Form{typed(r, slices.Concat(scope, f.Binds), depth-1)}
	return f
}

func TestWellTypedFormulas(t *testing.T) {
	r := rand.New(rand.NewPCG(1, 1))
	for range 2000 {
		f := typed(r, env(), 5)
		if e := types.Form(env(), f); e != api.OK {
			t.Fatal(f, e)
		}
		free := formula.Free(f)
		for _, n := range free {
			if !slices.ContainsFunc(env(), func(b api.Bind) bool { return b.Name == n }) {
				t.Fatal(f, "has the free variable", n)
			}
			less := slices.DeleteFunc(env(), func(b api.Bind) bool { return b.Name == n })
			if e := types.Form(less, f); e != api.ErrVar {
				t.Fatal(f, "without", n, e)
			}
		}
		used := slices.DeleteFunc(env(), func(b api.Bind) bool { return !slices.Contains(free, b.Name) })
		more := append(env(), api.Bind{Name: "new", Sort: 1 + r.IntN(7)})
		nnf, _ := formula.Nnf(f)
		not, _ := formula.Nnf(api.Form{Kind: api.NotF, L: []api.Form{f}})
		if types.Form(used, f) != api.OK || types.Form(more, f) != api.OK || types.Form(env(), nnf) != api.OK || types.Form(env(), not) != api.OK {
			t.Fatal(f)
		}
	}
}

func TestArgumentsAreLeftAlone(t *testing.T) {
	e := append(make([]api.Bind, 0, 40), env()...)
	types.Form(e, form("all x: slot (some y: room (in(l, y) | at(l, x)))"))
	for _, b := range e[len(e):cap(e)] {
		if b != (api.Bind{}) {
			t.Error("wrote behind the environment")
		}
	}
	if !slices.Equal(e, env()) {
		t.Error("changed the environment")
	}
}
