package ground_test

import (
	"fmt"
	"slices"
	"testing"

	"chalkline/api"
	"chalkline/eval"
	"chalkline/ground"
	"chalkline/sample"
	"chalkline/week"
)

func TestInstancesInOrder(t *testing.T) {
	l, e := ground.All(tiny(), sample.Rules(`
hard never: false;
soft early 3 each l: lesson, s: slot: at(l, s) -> some r: room (!shut(r, s));
hard inside each r: room: all l: lesson (in(l, r));`))
	var got []string
	for _, i := range l {
		got = append(got, fmt.Sprint(i.Rule, i.Binds, " ", spell(i.T)))
	}
	if e != api.OK || fmt.Sprint(got) != fmt.Sprint([]string{"0 [] c0", "1 [0 0] |(!(v1) |(!(c0)))", "1 [0 1] |(!(v2) |(!(c1)))", "2 [0] &(v3)"}) {
		t.Error(got, e)
	}
	if l, e := ground.All(tiny(), nil); e != api.OK || len(l) != 0 {
		t.Error(l, e)
	}
	if l, e := ground.All(sample.Plain(0, 1, 1, 0, 0), sample.Rules("hard a each l: lesson: false; hard b: true;")); e != api.OK || len(l) != 1 || l[0].Rule != 1 {
		t.Error(l, e)
	}
}

func TestAllErrors(t *testing.T) {
	s := tiny()
	deep := bush(1)
	for range 24 {
		deep = api.Form{Kind: api.NotF, L: []api.Form{deep}}
	}
	hard := func(body api.Form, each ...api.Bind) []api.Rule {
		return []api.Rule{{Name: "a", Hard: true, Each: each, Body: body}}
	}
	twice := append(hard(bush(1)), hard(bush(1))...)
	x := api.Bind{Name: "x", Sort: api.SlotS}
	var many []api.Rule
	for i := range 65 {
		many = append(many, api.Rule{Name: fmt.Sprint("r", i), Hard: true, Body: bush(1)})
	}
	for i, y := range []struct {
		s api.School
		l []api.Rule
		e api.Errno
	}{
		{api.School{}, many, api.ErrArg}, {sample.Plain(65, 1, 1, 0, 0), twice, api.ErrBound}, {s, many, api.ErrBound}, {s, many[:64], api.OK}, {s, twice, api.ErrArg}, {s, hard(deep), api.ErrBound},
		{s, hard(api.Form{}), api.ErrArg}, {s, hard(sample.Form("x = y"), x), api.ErrVar}, {s, hard(sample.Form("at(x, x)"), x), api.ErrSort}, {s, hard(sample.Form("x = x"), x, x), api.ErrTwice},
		{s, append(hard(sample.Form("x = y"), x), api.Rule{}), api.ErrArg}, {s, hard(sample.Form("x = x"), x), api.OK},
	} {
		if l, e := ground.All(y.s, y.l); e != y.e || e != api.OK && len(l) > 0 {
			t.Errorf("%d: %d, want %d", i, e, y.e)
		}
	}
}

func TestAllOfManyInstances(t *testing.T) {
	s := sample.Plain(64, 50, 32, 64, 64)
	all := "each l: lesson, p: person"
	for src, want := range map[string]api.Errno{
		"hard a " + all + ": true;": api.OK, "hard a " + all + ": true; hard b: true;": api.ErrBound, "hard b: true; hard a " + all + ": true;": api.ErrBound,
		"hard a each l: lesson, p: person, s: slot, g: group, q: person, h: group: true;": api.ErrBound, "hard a each l: lesson, r: room: true; soft b 1 each l: lesson, r: room: true;": api.OK,
		"hard a each l: lesson, r: room: true; soft b 1 each l: lesson, r: room: true; hard c each d: day: true;": api.ErrBound,
	} {
		l, e := ground.All(s, sample.Rules(src))
		if e != want || e == api.OK && len(l) != 4096 || e != api.OK && len(l) > 0 {
			t.Errorf("%s: %d instances, %d", src, len(l), e)
		}
	}
}

func TestAllOfManyNodes(t *testing.T) {
	s := sample.Plain(64, 1, 1, 64, 0)
	each := []api.Bind{{Name: "l", Sort: api.LessonS}, {Name: "p", Sort: api.PersonS}}
	rule := func(name string, body api.Form, binds ...api.Bind) api.Rule {
		return api.Rule{Name: name, Hard: true, Each: binds, Body: body}
	}
	imp := api.Form{Kind: api.ImpF, L: []api.Form{bush(7), bush(7)}}
	most := quant(api.MostF, bush(2), api.DayS)
	for i, x := range []struct {
		l []api.Rule
		e api.Errno
	}{
		{[]api.Rule{rule("a", bush(16), each...)}, api.OK}, {[]api.Rule{rule("a", imp, each...)}, api.OK}, {[]api.Rule{rule("a", most, each...)}, api.OK},
		{[]api.Rule{rule("a", bush(17), each...)}, api.ErrBound}, {[]api.Rule{rule("a", bush(16), each[0]), rule("b", bush(1))}, api.OK},
		{[]api.Rule{rule("a", quant(api.SomeF, bush(127), api.HouseS), each[0]), rule("b", bush(64))}, api.OK},
		{[]api.Rule{rule("a", quant(api.SomeF, bush(127), api.HouseS), each[0]), rule("b", bush(64)), rule("c", bush(255)), rule("d", bush(129))}, api.OK},
		{[]api.Rule{rule("a", quant(api.SomeF, bush(127), api.HouseS), each[0]), rule("b", bush(64)), rule("c", bush(255)), rule("d", bush(130))}, api.ErrBound},
	} {
		n := 0
		l, e := ground.All(s, x.l)
		for _, y := range l {
			n += nodes(y.T)
		}
		if e != x.e || n > 65536 || e != api.OK && len(l) > 0 {
			t.Errorf("%d: %d nodes, %d; want %d", i, n, e, x.e)
		}
	}
}

func TestInstancesOfRandomRules(t *testing.T) {
	r := sample.New(2)
	for range 300 {
		s := r.School(r.Below(3), 1+r.Below(3), 1+r.Below(2))
		rules := r.Rules(r.Below(4), 4)
		l, e := ground.All(s, rules)
		if e != api.OK {
			t.Fatal(e)
		}
		k := 0
		weeks, _ := week.All(s, 1000)
		for i, rule := range rules {
			tuples, _ := eval.Insts(s, rule)
			for _, tuple := range tuples {
				var env []api.Env
				for n, b := range rule.Each {
					env = append(env, api.Env{Name: b.Name, Sort: b.Sort, At: tuple[n]})
				}
				x := l[k]
				if x.Rule != i || !slices.Equal(x.Binds, tuple) || spell(x.T) != byWords(s, env, rule.Body) {
					t.Fatalf("instance %d is %+v, want %d, %v, %s", k, x, i, tuple, byWords(s, env, rule.Body))
				}
				k++
			}
		}
		if k != len(l) {
			t.Fatal(k, len(l))
		}
		w := weeks[r.Below(len(weeks))]
		a, _ := week.True(s, w)
		broken, _ := eval.Broken(s, w, rules)
		for _, x := range l {
			violated := slices.ContainsFunc(broken, func(b api.Inst) bool { return b.Rule == x.Rule && slices.Equal(b.Binds, x.Binds) })
			if value(x.T, a) == violated {
				t.Fatalf("%+v in %v", x, w)
			}
		}
	}
}

func TestArgumentsAndResultsAreApart(t *testing.T) {
	s := tiny()
	rules := sample.Rules("hard a each s: slot, r: room: all l: lesson (at(l, s) | in(l, r) | shut(r, s));")
	old := fmt.Sprint(s, rules)
	l, _ := ground.All(s, rules)
	if fmt.Sprint(s, rules) != old {
		t.Error("an argument was changed")
	}
	want := fmt.Sprint(l[1])
	l[0].Binds[0], l[0].T.L[0].L[0] = 9, api.Tree{}
	l[0].Binds = append(l[0].Binds[:1], 8, 8)
	if fmt.Sprint(l[1]) != want {
		t.Error("instances share memory")
	}
	m, _ := ground.All(s, rules)
	n, _ := ground.All(s, rules)
	if fmt.Sprint(m) != fmt.Sprint(n) {
		t.Error("equal calls differ")
	}
	f, _ := ground.Frame(s)
	f[0].L[0].L[0] = api.Tree{}
	if g, _ := ground.Frame(s); spell(g[0].L[1]) != spell(f[0].L[1]) {
		t.Error("frames share memory")
	}
}
