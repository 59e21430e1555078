package ground_test

import (
	"fmt"
	"slices"
	"strings"
	"testing"

	"chalkline/api"
	"chalkline/eval"
	"chalkline/ground"
	"chalkline/sample"
	"chalkline/week"
)

// spell writes a ground formula: v3, c1, !(x), &(x y), |(x y), 2+(x y).
func spell(t api.Tree) string {
	var l []string
	for _, x := range t.L {
		l = append(l, spell(x))
	}
	ops := "(" + strings.Join(l, " ") + ")"
	switch {
	case t.Kind == api.ConstG && t.K == 0 && len(l) == 0:
		return fmt.Sprint("c", t.V)
	case t.Kind == api.VarG && t.K == 0 && len(l) == 0:
		return fmt.Sprint("v", t.V)
	case t.Kind == api.NotG && t.K == 0 && t.V == 0 && len(l) == 1:
		return "!" + ops
	case t.Kind == api.AndG && t.K == 0 && t.V == 0:
		return "&" + ops
	case t.Kind == api.OrG && t.K == 0 && t.V == 0:
		return "|" + ops
	case t.Kind == api.LeastG && t.V == 0:
		return fmt.Sprint(t.K, "+", ops)
	}
	return fmt.Sprintf("malformed %+v", t)
}

func nodes(t api.Tree) int {
	n := 1
	for _, x := range t.L {
		n += nodes(x)
	}
	return n
}

// value evaluates a ground formula.
func value(t api.Tree, a []bool) bool {
	n := 0
	for _, x := range t.L {
		if value(x, a) {
			n++
		}
	}
	switch t.Kind {
	case api.ConstG:
		return t.V == 1
	case api.VarG:
		return a[t.V]
	case api.NotG:
		return n == 0
	case api.AndG:
		return n == len(t.L)
	case api.OrG:
		return n > 0
	}
	return n >= t.K
}

// tiny has one lesson, two slots and one room; its variables are 1 and 2 for the slots and 3 for the room.
func tiny() api.School {
	s := sample.Plain(1, 2, 1, 1, 1)
	s.Lessons[0].Groups = []int{0}
	s.Groups[0].Size = 5
	s.Rooms[0].Shut = []int{1}
	return s
}

func TestTree(t *testing.T) {
	env := []api.Env{{Name: "l", Sort: api.LessonS}, {Name: "r", Sort: api.RoomS}, {Name: "z", Sort: api.SlotS, At: 1}}
	for src, want := range map[string]string{
		"true": "c1", "false": "c0", "!true": "!(c1)", "true & false": "&(c1 c0)", "true | false": "|(c1 c0)", "true -> false": "|(!(c1) c0)", "at(l, z)": "v2", "in(l, r)": "v3",
		"some s: slot (at(l, s))": "|(v1 v2)", "all s: slot (at(l, s))": "&(v1 v2)", "most 1 s: slot (at(l, s))": "!(2+(v1 v2))", "least 1 s: slot (at(l, s))": "1+(v1 v2)",
		"least 0 s: slot (at(l, s))": "0+(v1 v2)", "most 0 s: slot (at(l, s))": "!(1+(v1 v2))", "most 1099511627776 s: slot (true)": "!(1099511627776+(c1 c1))", "most 1099511627775 s: slot (true)": "!(1099511627776+(c1 c1))",
		"most 1099511627774 s: slot (true)": "!(1099511627775+(c1 c1))", "least 1099511627776 s: slot (true)": "1099511627776+(c1 c1)",
		"some s: slot, t: slot (at(l, s) & at(l, t))": "|(&(v1 v1) &(v1 v2) &(v2 v1) &(v2 v2))", "all s: slot (some t: slot (at(l, t)) -> shut(r, s))": "&(|(!(|(v1 v2)) c0) |(!(|(v1 v2)) c1))",
		"all s: slot (s = z)": "&(c0 c1)", "all s: slot (s < z)": "&(c1 c0)", "all d: day (day(z) = d)": "&(c0 c1 c0 c0 c0 c0 c0)", "all g: group (attends(g, l))": "&(c1)", "all p: person (teaches(p, l))": "&(c0)",
		"all p: person (away(p, z))": "&(c0)", "size(l) = 5": "c1", "size(l) < 5": "c0", "3 < 4": "c1", "4 < 3": "c0", "l = l": "c1", "seats(r) = hour(z)": "c1",
		"some g: group, s: slot (attends(g, l) & (at(l, s) | s = z))": "|(&(c1 |(v1 c0)) &(c1 |(v2 c1)))",
	} {
		x, e := ground.Tree(tiny(), env, sample.Form(src))
		if e != api.OK || spell(x) != want {
			t.Errorf("%s: %s, %d; want %s", src, spell(x), e, want)
		}
	}
	for src, want := range map[string]string{"some l: lesson (true)": "|()", "all l: lesson (true)": "&()", "least 2 l: lesson (true)": "2+()", "most 2 l: lesson, s: slot (true)": "!(3+())"} {
		if x, e := ground.Tree(sample.Plain(0, 1, 1, 0, 0), nil, sample.Form(src)); e != api.OK || spell(x) != want {
			t.Errorf("%s: %s, %d; want %s", src, spell(x), e, want)
		}
	}
}

func TestTreeErrors(t *testing.T) {
	s := tiny()
	ok := []api.Env{{Name: "l", Sort: api.LessonS}}
	deep := sample.Form("true")
	for range 24 {
		deep = api.Form{Kind: api.NotF, L: []api.Form{deep}}
	}
	for i, x := range []struct {
		s   api.School
		env []api.Env
		f   api.Form
		e   api.Errno
	}{
		{api.School{}, nil, deep, api.ErrArg}, {sample.Plain(65, 1, 1, 0, 0), nil, api.Form{}, api.ErrBound}, {s, []api.Env{{Name: "l", Sort: api.LessonS, At: 1}}, deep, api.ErrArg},
		{s, append(ok, ok...), sample.Form("true"), api.ErrArg}, {s, ok, api.Form{}, api.ErrArg}, {s, ok, deep, api.ErrBound}, {s, ok, sample.Form("at(l, s)"), api.ErrVar},
		{s, ok, sample.Form("all s: room (at(l, s))"), api.ErrSort}, {s, ok, sample.Form("all l: room (true)"), api.ErrTwice}, {s, ok, sample.Form("all m: lesson (true)"), api.OK},
		{sample.Plain(64, 50, 1, 64, 64), nil, sample.Form("some l: lesson, p: person, g: group, s: slot (true)"), api.ErrBound},
		{sample.Plain(64, 50, 1, 64, 0), nil, sample.Form("some l: lesson, p: person, g: group, s: slot (true)"), api.OK},
	} {
		if y, e := ground.Tree(x.s, x.env, x.f); e != x.e || e != api.OK && spell(y) != spell(api.Tree{}) {
			t.Errorf("%d: %d, want %d", i, e, x.e)
		}
	}
}

// bush is a formula of n nodes, of which the ground formula has n nodes as well.
func bush(n int) api.Form {
	switch n {
	case 1:
		return api.Form{Kind: api.TrueF}
	case 2:
		return api.Form{Kind: api.NotF, L: []api.Form{bush(1)}}
	}
	left := (n - 1) / 2
	return api.Form{Kind: api.AndF, L: []api.Form{bush(left), bush(n - 1 - left)}}
}

func quant(kind int, f api.Form, sorts ...int) api.Form {
	q := api.Form{Kind: kind, L: []api.Form{f}}
	for i, sort := range sorts {
		q.Binds = append(q.Binds, api.Bind{Name: fmt.Sprint("q", i), Sort: sort})
	}
	return q
}

func TestTreeOfTheGreatestSize(t *testing.T) {
	s := sample.Plain(64, 1, 1, 64, 0)
	two := func(kind int, a, b api.Form) api.Form { return api.Form{Kind: kind, L: []api.Form{a, b}} }
	// 1 + 4096 * 15, or one more for the negation of MostF, and 1 + 64 * 63.
	for _, kind := range []int{api.AllF, api.SomeF, api.LeastF, api.MostF} {
		large, more := quant(kind, bush(15), api.LessonS, api.PersonS), 0
		if kind == api.MostF {
			more = 1
		}
		small := quant(api.SomeF, bush(63), api.LessonS)
		for left, want := range map[int]api.Errno{59 - more: api.OK, 60 - more: api.OK, 61 - more: api.ErrBound, 62 - more: api.ErrBound} {
			x, e := ground.Tree(s, nil, two(api.OrF, large, two(api.AndF, small, bush(left))))
			if e != want || e == api.OK && nodes(x) != 65476+more+left || e != api.OK && spell(x) != spell(api.Tree{}) {
				t.Error(kind, left, e, nodes(x))
			}
			// The negation of an implication's left side is a node as well.
			x, e = ground.Tree(s, nil, two(api.OrF, large, two(api.ImpF, small, bush(left-1))))
			if e != want || e == api.OK && nodes(x) != 65476+more+left {
				t.Error(kind, left, e, nodes(x))
			}
		}
	}
}

func TestFrame(t *testing.T) {
	one := func(l ...string) string {
		v := strings.Join(l, " ")
		return "&(1+(" + v + ") !(2+(" + v + ")))"
	}
	l, e := ground.Frame(sample.Plain(2, 3, 2, 0, 0))
	want := []string{one("v1", "v2", "v3"), one("v7", "v8"), one("v4", "v5", "v6"), one("v9", "v10")}
	var got []string
	for _, x := range l {
		got = append(got, spell(x))
	}
	if e != api.OK || !slices.Equal(got, want) {
		t.Error(got, e)
	}
	if l, e := ground.Frame(sample.Plain(0, 3, 2, 0, 0)); e != api.OK || len(l) != 0 {
		t.Error(l, e)
	}
	if l, e := ground.Frame(sample.Plain(64, 50, 32, 0, 0)); e != api.OK || len(l) != 128 {
		t.Error(len(l), e)
	}
	for s, want := range map[*api.School]api.Errno{{}: api.ErrArg, {Slots: sample.Plain(0, 1, 0, 0, 0).Slots}: api.ErrArg} {
		if l, e := ground.Frame(*s); e != want || len(l) > 0 {
			t.Error(l, e)
		}
	}
	if l, e := ground.Frame(sample.Plain(1, 51, 1, 0, 0)); e != api.ErrBound || len(l) > 0 {
		t.Error(l, e)
	}
}

func TestFrameIsTrueExactlyForWeeks(t *testing.T) {
	s := sample.Plain(2, 2, 2, 0, 0)
	l, _ := ground.Frame(s)
	for bits := range 1 << 8 {
		a := make([]bool, 9)
		for v := range 8 {
			a[v+1] = bits>>v&1 == 1
		}
		all := true
		for _, x := range l {
			all = all && value(x, a)
		}
		if _, e := week.Of(s, a); all != (e == api.OK) {
			t.Error(a, all, e)
		}
	}
}

// byWords is the ground formula in the chapter's words.
func byWords(s api.School, env []api.Env, f api.Form) string {
	at := func(i int) int {
		return env[slices.IndexFunc(env, func(x api.Env) bool { return x.Name == f.Terms[i].Name })].At
	}
	sub := func(i int) string { return byWords(s, env, f.L[i]) }
	switch f.Kind {
	case api.TrueF:
		return "c1"
	case api.FalseF:
		return "c0"
	case api.AtF:
		return fmt.Sprint("v", week.At(s, at(0), at(1)))
	case api.InF:
		return fmt.Sprint("v", week.In(s, at(0), at(1)))
	case api.NotF:
		return "!(" + sub(0) + ")"
	case api.AndF:
		return "&(" + sub(0) + " " + sub(1) + ")"
	case api.OrF:
		return "|(" + sub(0) + " " + sub(1) + ")"
	case api.ImpF:
		return "|(!(" + sub(0) + ") " + sub(1) + ")"
	case api.AllF, api.SomeF, api.LeastF, api.MostF:
		inner := []string{}
		rule := api.Rule{Name: "x", Hard: true, Each: f.Binds, Body: api.Form{Kind: api.TrueF}}
		tuples, _ := eval.Insts(s, rule)
		for _, t := range tuples {
			more := slices.Clone(env)
			for i, b := range f.Binds {
				more = append(more, api.Env{Name: b.Name, Sort: b.Sort, At: t[i]})
			}
			inner = append(inner, byWords(s, more, f.L[0]))
		}
		ops := "(" + strings.Join(inner, " ") + ")"
		return map[int]string{api.AllF: "&" + ops, api.SomeF: "|" + ops, api.LeastF: fmt.Sprint(f.N, "+", ops), api.MostF: fmt.Sprint("!(", f.N+1, "+", ops, ")")}[f.Kind]
	}
	if ok, e := eval.Holds(s, sample.Zero(s), env, f); ok && e == api.OK {
		return "c1"
	}
	return "c0"
}

func TestTreesOfRandomFormulas(t *testing.T) {
	r := sample.New(1)
	for range 1500 {
		s := r.School(r.Below(3), 1+r.Below(3), 1+r.Below(3))
		f := r.Form(nil, 5)
		x, e := ground.Tree(s, nil, f)
		if e != api.OK || spell(x) != byWords(s, nil, f) {
			t.Fatalf("%+v: %s, %d; want %s", f, spell(x), e, byWords(s, nil, f))
		}
		weeks, _ := week.All(s, 1000)
		for range 3 {
			w := weeks[r.Below(len(weeks))]
			a, _ := week.True(s, w)
			ok, e := eval.Holds(s, w, nil, f)
			if e != api.OK || value(x, a) != ok {
				t.Fatalf("%+v in %v: %v, %d", f, w, ok, e)
			}
		}
	}
}
