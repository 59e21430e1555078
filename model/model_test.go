package model_test

import (
	"fmt"
	"reflect"
	"slices"
	"testing"

	"chalkline/api"
	"chalkline/bulk"
	"chalkline/cnf"
	"chalkline/encode"
	"chalkline/eval"
	"chalkline/flat"
	"chalkline/gate"
	"chalkline/ground"
	"chalkline/model"
	"chalkline/sample"
	"chalkline/solver"
	"chalkline/week"
)

// byWords compiles by the five steps of the chapter.
func byWords(s api.School, l []api.Rule) (api.Model, api.Errno) {
	frame, e := ground.Frame(s)
	if e != api.OK {
		return api.Model{}, e
	}
	insts, e := ground.All(s, l)
	if e != api.OK {
		return api.Model{}, e
	}
	var trees []api.Tree
	for _, t := range frame {
		trees = append(trees, flat.Simple(t))
	}
	for _, i := range insts {
		trees = append(trees, flat.Simple(i.T))
	}
	lits, lins, next, e := gate.All(trees, week.Vars(s)+1)
	if e != api.OK {
		return api.Model{}, e
	}
	m := api.Model{Vars: week.Vars(s), Insts: insts}
	for i := range insts {
		m.Guards = append(m.Guards, next+i)
	}
	c, next, e := encode.All(lins, next+len(insts))
	if e != api.OK {
		return api.Model{}, e
	}
	m.C = api.Cnf{N: next - 1, L: c}
	for i, lit := range lits {
		if i < len(frame) {
			m.C.L = append(m.C.L, []int{lit})
		} else {
			m.C.L = append(m.C.L, []int{-m.Guards[i-len(frame)], lit})
		}
	}
	if e := cnf.Check(m.C); e != api.OK {
		return api.Model{}, e
	}
	return m, api.OK
}

func TestCompile(t *testing.T) {
	r := sample.New(1)
	for range 300 {
		s := r.School(r.Below(4), 1+r.Below(4), 1+r.Below(3))
		l := r.Rules(r.Below(4), 4)
		old := fmt.Sprint(s, l)
		want, e := byWords(s, l)
		got, f := model.Compile(s, l)
		if e != f || fmt.Sprint(got) != fmt.Sprint(want) || fmt.Sprint(s, l) != old {
			t.Fatal(s, l, e, f)
		}
	}
}

func TestTheExampleOfTheChapter(t *testing.T) {
	s := sample.Plain(1, 2, 1, 0, 0)
	s.Slots[1].Day, s.Slots[1].Hour = 0, 1
	m, e := model.Compile(s, sample.Rules("hard no each s: slot: some l: lesson (at(l, s)) -> hour(s) = 0;"))
	if e != api.OK || m.Vars != 3 || len(m.Insts) != 2 || len(m.Guards) != 2 || m.Guards[1] != m.Guards[0]+1 || m.Guards[0] <= 3 || cnf.Check(m.C) != api.OK {
		t.Error(m, e)
	}
	v, _ := bulk.New(m.C)
	_, a, _ := solver.Solve(v, m.Guards, 1000)
	w, e := model.Read(s, m, a.Model)
	if a.Kind != api.YesA || e != api.OK || w.L[0].Slot != 0 {
		t.Error(a.Kind, w, e)
	}
	if _, a, _ := solver.Solve(v, append(m.Guards, 2), 1000); a.Kind != api.NoA {
		t.Error(a.Kind)
	}
}

func TestCompileErrors(t *testing.T) {
	s, wide := sample.Plain(64, 1, 1, 64, 0), sample.Plain(2, 50, 32, 64, 64)
	twice := append(sample.Rules("hard a: true;"), sample.Rules("hard a: true;")...)
	for i, x := range []struct {
		s api.School
		l []api.Rule
		e api.Errno
	}{
		{api.School{}, twice, api.ErrArg}, {sample.Plain(65, 1, 1, 0, 0), twice, api.ErrBound}, {s, twice, api.ErrArg}, {s, []api.Rule{{Name: "a", Hard: true, Body: sample.Form("x = y")}}, api.ErrVar}, {s, sample.Rules("hard a each l: lesson, p: person: true; hard b: true;"), api.ErrBound}, {s, sample.Rules("hard a each l: lesson, p: person: true;"), api.OK},
		// A gate may not have 4096 operands.
		{wide, sample.Rules("hard a each l: lesson: some d: day, s: slot (at(l, s));"), api.OK}, {s, sample.Rules("hard a: some p: person, l: lesson (some s: slot (at(l, s)));"), api.ErrBound}, {wide, sample.Rules("hard a: some s: slot, p: person, g: group (true);"), api.ErrBound}, {sample.Plain(64, 50, 32, 0, 0), nil, api.ErrBound},
	} {
		if m, e := model.Compile(x.s, x.l); e != x.e || e != api.OK && !reflect.DeepEqual(m, api.Model{}) {
			t.Errorf("%d: %d, want %d", i, e, x.e)
		}
	}
}

// The limits of the layers below are passed on, whichever it is that is met.
func TestCompileOfLargeSchools(t *testing.T) {
	kinds := map[api.Errno]int{}
	for lessons := 1; lessons <= 64; lessons += 21 {
		for slots := 10; slots <= 50; slots += 40 {
			s := sample.Plain(lessons, slots, 4, 0, 0)
			for _, src := range []string{
				"", "hard clash each s: slot, r: room: most 1 l: lesson (at(l, s) & in(l, r));", "soft apart 2 each l: lesson, m: lesson: l = m | some s: slot (at(l, s) & !at(m, s));", "hard a each l: lesson, s: slot: at(l, s) -> least 2 m: lesson (at(m, s));",
			} {
				want, e := byWords(s, sample.Rules(src))
				got, f := model.Compile(s, sample.Rules(src))
				if e != f || !cnf.Same(got.C, want.C) || !slices.Equal(got.Guards, want.Guards) || e != api.OK && !reflect.DeepEqual(got, api.Model{}) {
					t.Error(lessons, slots, src, e, f)
				}
				kinds[f]++
			}
		}
	}
	if kinds[api.OK] < 5 || kinds[api.ErrBound] < 5 {
		t.Error(kinds)
	}
}

func TestHardAndSoft(t *testing.T) {
	l := sample.Rules("hard a: true; soft b 7: true; hard c: true; soft d 1000: true;")
	inst := func(rules ...int) (out []api.Inst) {
		for _, r := range rules {
			out = append(out, api.Inst{Rule: r})
		}
		return out
	}
	for i, x := range []struct {
		m          api.Model
		hard, soft string
		e          api.Errno
	}{
		{api.Model{}, "[]", "[]", api.OK}, {api.Model{Insts: inst(3, 0, 1, 2, 0), Guards: []int{9, 8, 7, 6, 5}}, "[8 6 5]", "[{9 1000} {7 7}]", api.OK}, {api.Model{Insts: inst(0), Guards: []int{-3}}, "[-3]", "[]", api.OK}, {api.Model{Insts: inst(0)}, "[]", "[]", api.ErrArg}, {api.Model{Guards: []int{1}}, "[]", "[]", api.ErrArg}, {api.Model{Insts: inst(0, 4), Guards: []int{1, 2}}, "[]", "[]", api.ErrArg}, {api.Model{Insts: inst(-1), Guards: []int{1}}, "[]", "[]", api.ErrArg}, {api.Model{Insts: inst(1<<63 - 1), Guards: []int{1}}, "[]", "[]", api.ErrArg},
	} {
		hard, e := model.Hard(x.m, l)
		soft, f := model.Soft(x.m, l)
		if fmt.Sprint(hard) != x.hard || fmt.Sprint(soft) != x.soft || e != x.e || f != x.e {
			t.Errorf("%d: %v, %d, %v, %d", i, hard, e, soft, f)
		}
	}
}

func TestRead(t *testing.T) {
	s := sample.Plain(2, 2, 1, 0, 0)
	a, _ := week.True(s, sample.Week(1, 0, 0, 0))
	for i, x := range []struct {
		s    api.School
		vars int
		a    []bool
		w    api.Week
		e    api.Errno
	}{
		{s, 6, a, sample.Week(1, 0, 0, 0), api.OK}, {s, 6, append(a, true, true), sample.Week(1, 0, 0, 0), api.OK}, {s, 5, a, api.Week{}, api.ErrArg}, {s, 7, a, api.Week{}, api.ErrArg}, {s, 6, a[:3], api.Week{}, api.ErrPlace}, {s, 6, nil, api.Week{}, api.ErrPlace}, {api.School{}, 6, a, api.Week{}, api.ErrArg}, {api.School{}, 0, a, api.Week{}, api.ErrArg}, {sample.Plain(65, 1, 1, 0, 0), 9, a, api.Week{}, api.ErrBound}, {sample.Plain(0, 1, 1, 0, 0), 0, nil, api.Week{}, api.OK},
	} {
		if w, e := model.Read(x.s, api.Model{Vars: x.vars}, x.a); !slices.Equal(w.L, x.w.L) || e != x.e {
			t.Errorf("%d: %v, %d", i, w, e)
		}
	}
}

func TestMeaning(t *testing.T) {
	r := sample.New(2)
	broken, whole := 0, 0
	for range 150 {
		s := r.School(r.Below(3), 1+r.Below(3), 1+r.Below(2))
		l := r.Rules(1+r.Below(3), 4)
		m, e := model.Compile(s, l)
		v, f := bulk.New(m.C)
		if e != api.OK || f != api.OK {
			t.Fatal(s, l, e, f)
		}
		weeks, _ := week.All(s, 1000)
		_, free, _ := solver.Solve(v, nil, 1<<40)
		if w, e := model.Read(s, m, free.Model); free.Kind != api.YesA || e != api.OK || week.Check(s, w) != api.OK {
			t.Fatal("a model is no week", s, l)
		}
		for range 4 {
			w := weeks[r.Below(len(weeks))]
			is, _ := week.True(s, w)
			var fix []int
			for x := 1; x <= m.Vars; x++ {
				if fix = append(fix, -x); is[x] {
					fix[x-1] = x
				}
			}
			violated, _ := eval.Broken(s, w, l)
			var hold []int
			for i, x := range m.Insts {
				bad := slices.ContainsFunc(violated, func(y api.Inst) bool { return y.Rule == x.Rule && slices.Equal(y.Binds, x.Binds) })
				if bad {
					broken++
					if _, a, _ := solver.Solve(v, append(slices.Clone(fix), m.Guards[i]), 1<<40); a.Kind != api.NoA {
						t.Fatal("a violated instance can be assumed", s, l, w, x)
					}
				} else {
					hold = append(hold, m.Guards[i])
				}
			}
			whole++
			_, a, _ := solver.Solve(v, append(fix, hold...), 1<<40)
			if got, e := model.Read(s, m, a.Model); a.Kind != api.YesA || e != api.OK || !slices.Equal(got.L, w.L) {
				t.Fatal("a week has no model", s, l, w)
			}
		}
	}
	if broken < 300 || whole < 300 {
		t.Error(broken, whole)
	}
}
