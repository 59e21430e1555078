package eval_test

import (
	"fmt"
	"slices"
	"testing"

	"chalkline/api"
	"chalkline/eval"
	"chalkline/formula"
	"chalkline/sample"
	"chalkline/week"
)

// tiny has two slots of one day in falling order, and something of every relation.
func tiny() api.School {
	return api.School{
		Slots:   []api.Slot{{Name: "late", Day: 2, Hour: 9}, {Name: "early", Day: 2, Hour: 3}, {Name: "first", Day: 1, Hour: 11}},
		Rooms:   []api.Room{{Name: "big", House: 3, Seats: 40, Shut: []int{1}}, {Name: "small", House: 5, Seats: 10}},
		People:  []api.Person{{Name: "ann", Away: []int{0, 2}}, {Name: "bob"}},
		Groups:  []api.Group{{Name: "g", Size: 12}, {Name: "h", Size: 9}},
		Lessons: []api.Lesson{{Name: "math", Who: []int{0}, Groups: []int{0, 1}}, {Name: "art", Who: []int{1}, Groups: []int{1}}},
	}
}

func TestHoldsOfClosedFormulas(t *testing.T) {
	s := tiny()
	w := sample.Week(0, 1, 2, 0) // math late in the small room, art first in the big one
	for src, want := range map[string]bool{
		"true": true, "false": false, "!true": false, "!false": true, "true & true": true, "true & false": false, "false & true": false, "true | false": true, "false | true": true, "false | false": false,
		"true -> false": false, "true -> true": true, "false -> false": true, "false -> true": true, "1 = 1": true, "1 != 1": false, "1 < 2": true, "2 < 2": false, "2 <= 2": true, "3 <= 2": false,
		"2 > 1": true, "2 > 2": false, "2 >= 2": true, "1 >= 2": false, "2 != 1": true, "2 = 1": false, "1099511627776 > 1099511627775": true,
		"all l: lesson (some s: slot (at(l, s)))": true, "some s: slot (all l: lesson (at(l, s)))": false,
		"least 2 l: lesson, s: slot (at(l, s))": true, "least 3 l: lesson, s: slot (at(l, s))": false, "most 2 l: lesson, s: slot (at(l, s))": true, "most 1 l: lesson, s: slot (at(l, s))": false,
		"least 0 l: lesson (false)": true, "most 0 l: lesson (false)": true, "most 0 l: lesson (true)": false, "least 2 l: lesson (true)": true, "least 3 l: lesson (true)": false, "least 1099511627776 l: lesson (true)": false, "most 1099511627776 l: lesson (true)": true,
	} {
		if x, e := eval.Holds(s, w, nil, sample.Form(src)); x != want || e != api.OK {
			t.Errorf("%s: %v, %d", src, x, e)
		}
	}
}

func TestHoldsUnderAnEnvironment(t *testing.T) {
	s := tiny()
	w := sample.Week(0, 1, 2, 0)
	env := []api.Env{
		{Name: "math", Sort: api.LessonS, At: 0}, {Name: "art", Sort: api.LessonS, At: 1}, {Name: "late", Sort: api.SlotS, At: 0}, {Name: "early", Sort: api.SlotS, At: 1}, {Name: "first", Sort: api.SlotS, At: 2},
		{Name: "big", Sort: api.RoomS, At: 0}, {Name: "small", Sort: api.RoomS, At: 1}, {Name: "ann", Sort: api.PersonS, At: 0}, {Name: "bob", Sort: api.PersonS, At: 1},
		{Name: "g", Sort: api.GroupS, At: 0}, {Name: "h", Sort: api.GroupS, At: 1}, {Name: "d", Sort: api.DayS, At: 2}, {Name: "e", Sort: api.DayS, At: 6}, {Name: "x", Sort: api.HouseS, At: 3}, {Name: "y", Sort: api.HouseS, At: 7},
	}
	for src, want := range map[string]bool{
		"at(math, late)": true, "at(math, early)": false, "at(art, first)": true, "at(art, late)": false, "in(math, small)": true, "in(math, big)": false, "in(art, big)": true, "in(art, small)": false,
		"teaches(ann, math)": true, "teaches(ann, art)": false, "teaches(bob, art)": true, "attends(g, math)": true, "attends(g, art)": false, "attends(h, math)": true, "attends(h, art)": true,
		"away(ann, late)": true, "away(ann, early)": false, "away(ann, first)": true, "away(bob, late)": false, "shut(big, early)": true, "shut(big, late)": false, "shut(small, early)": false,
		"early < late": true, "late < early": false, "first < early": true, "late > first": true, "first = first": true, "early = late": false, "late >= late": true, "first != late": true, "late <= early": false,
		"day(late) = d": true, "day(first) = d": false, "day(early) = day(late)": true, "day(first) < day(late)": true, "d < e": true, "e <= d": false, "day(late) != e": true,
		"hour(late) = 9": true, "hour(early) = 3": true, "hour(first) = 11": true, "hour(first) > hour(late)": true, "house(big) = x": true, "house(small) = x": false, "house(small) = y": false, "x = y": false, "x != y": true,
		"seats(big) = 40": true, "seats(small) = 10": true, "size(math) = 21": true, "size(art) = 9": true, "size(math) > seats(small)": true, "size(art) <= seats(small)": true,
		"math = art": false, "math != art": true, "ann = ann": true, "g = h": false, "big = small": false, "all l: lesson (l = math | l = art)": true, "some s: slot (s < first)": false, "least 2 s: slot (s > first)": true,
		"most 1 s: slot (s > first)": false, "some q: day (q = e)": true, "least 7 q: day (true)": true, "most 7 q: day (true)": true, "least 8 q: house (true)": true, "least 9 q: house (true)": false,
		"all s: slot (day(s) = d | s = first)": true, "all s: slot, r: room (shut(r, s) -> s = early & r = big)": true, "most 1 s: slot, r: room (shut(r, s))": true, "most 0 s: slot, r: room (shut(r, s))": false,
	} {
		if x, e := eval.Holds(s, w, env, sample.Form(src)); x != want || e != api.OK {
			t.Errorf("%s: %v, %d", src, x, e)
		}
	}
}

func TestHoldsErrors(t *testing.T) {
	s, w := tiny(), sample.Week(0, 1, 2, 0)
	deep := sample.Form("true")
	for range 24 {
		deep = api.Form{Kind: api.NotF, L: []api.Form{deep}}
	}
	ok := []api.Env{{Name: "l", Sort: api.LessonS, At: 1}}
	for i, x := range []struct {
		s   api.School
		w   api.Week
		env []api.Env
		f   api.Form
		e   api.Errno
	}{
		{api.School{}, w, nil, sample.Form("true"), api.ErrArg}, {sample.Plain(65, 1, 1, 0, 0), w, nil, sample.Form("true"), api.ErrBound}, {s, sample.Week(0, 0), nil, sample.Form("true"), api.ErrPlace},
		{s, sample.Week(0, 0, 3, 0), []api.Env{{}}, api.Form{}, api.ErrPlace}, {s, sample.Week(0, 0, 0, 2), nil, sample.Form("true"), api.ErrPlace},
		{s, w, []api.Env{{Name: "l", Sort: api.LessonS, At: 2}}, sample.Form("x = 1"), api.ErrArg}, {s, w, []api.Env{{Name: "l", Sort: api.LessonS, At: -1}}, sample.Form("true"), api.ErrArg},
		{s, w, []api.Env{{Name: "d", Sort: api.DayS, At: 7}}, sample.Form("true"), api.ErrArg}, {s, w, []api.Env{{Name: "d", Sort: api.DayS, At: 6}}, sample.Form("true"), api.OK},
		{s, w, []api.Env{{Name: "h", Sort: api.HouseS, At: 8}}, sample.Form("true"), api.ErrArg}, {s, w, []api.Env{{Name: "h", Sort: api.HouseS, At: 7}}, sample.Form("true"), api.OK},
		{s, w, []api.Env{{Name: "", Sort: api.LessonS}}, sample.Form("true"), api.ErrArg}, {s, w, []api.Env{{Name: "slot", Sort: api.LessonS}}, sample.Form("true"), api.ErrArg}, {s, w, []api.Env{{Name: "x", Sort: api.NumS}}, sample.Form("true"), api.ErrArg},
		{s, w, []api.Env{{Name: "x", Sort: 0}}, sample.Form("true"), api.ErrArg}, {s, w, append(ok, ok...), sample.Form("true"), api.ErrArg}, {s, w, append(ok, ok...), api.Form{}, api.ErrArg},
		{s, w, ok, api.Form{}, api.ErrArg}, {s, w, ok, deep, api.ErrBound}, {s, w, ok, sample.Form("some s: slot (at(l, s))"), api.OK}, {s, w, ok, sample.Form("some s: slot (at(s, l))"), api.ErrSort},
		{s, w, ok, sample.Form("some s: slot (at(m, s))"), api.ErrVar}, {s, w, ok, sample.Form("some l: slot (true)"), api.ErrTwice}, {s, w, ok, sample.Form("size(l) = 9"), api.OK},
	} {
		if ok, e := eval.Holds(x.s, x.w, x.env, x.f); e != x.e || e != api.OK && ok {
			t.Errorf("%d: %v, %d, want %d", i, ok, e, x.e)
		}
	}
}

func TestBreadthOfFormulas(t *testing.T) {
	// 33 * 31 * 41 * 25 is 2 to the power of 20, less one.
	s := sample.Plain(33, 25, 1, 31, 41)
	w := sample.Zero(s)
	all := "l: lesson, s: slot, p: person, g: group"
	for src, want := range map[string]api.Errno{
		"all " + all + " (true)": api.OK, "!all " + all + " (true)": api.ErrBound, "most 0 " + all + " (!true)": api.ErrBound, "true & some " + all + " (true)": api.ErrBound,
		"some " + all + ", r: room (true)": api.OK, "some " + all + ", d: day (true)": api.ErrBound, "most 0 " + all + " (false)": api.OK,
		"least 1 l: lesson, p: person, m: lesson, q: person, n: lesson, o: person (true)": api.ErrBound,
		"all l: lesson (all s: slot (all p: person (all g: group (true))))":               api.ErrBound,
	} {
		if x, e := eval.Holds(s, w, nil, sample.Form(src)); e != want || e != api.OK && x {
			t.Errorf("%s: %v, %d", src, x, e)
		}
	}
	// Nothing is too broad below an empty sort.
	s = sample.Plain(64, 50, 32, 64, 0)
	w = sample.Zero(s)
	inner := "all l: lesson, m: lesson, n: lesson, o: lesson, p: person, q: person (all a: lesson, b: lesson, c: lesson, d: lesson, e: lesson, f: lesson (true))"
	for src, want := range map[string]api.Errno{"some g: group (" + inner + ")": api.OK, inner: api.ErrBound, "some d1: day (" + inner + ")": api.ErrBound, "all g: group, k: lesson (" + inner + ") & true": api.OK} {
		if _, e := eval.Holds(s, w, nil, sample.Form(src)); e != want {
			t.Errorf("%s: %d", src, e)
		}
	}
	s = sample.Plain(64, 32, 2, 0, 0)
	w = sample.Zero(s)
	// 1 + 64 * 32 * (1 + 64 * 8) is just above the limit, and so is 1 + 64 * 32 * (1 + 64 * 7 * 10), but not 1 + 64 * 32 * (1 + 64 * 7).
	wide := "all l: lesson, s: slot (%s)"
	for sub, want := range map[string]api.Errno{"some m: lesson, h: house (true)": api.ErrBound, "some m: lesson, d: day (!!!true & (true | true -> true))": api.ErrBound, "some m: lesson, d: day (true)": api.OK} {
		if _, e := eval.Holds(s, w, nil, sample.Form(fmt.Sprintf(wide, sub))); e != want {
			t.Errorf("%s: %d", sub, e)
		}
	}
}

func TestDeepScopes(t *testing.T) {
	s := sample.Plain(1, 2, 1, 1, 1)
	f := sample.Form("at(l22, s22)")
	for i := 22; i >= 0; i-- {
		f = api.Form{Kind: api.AllF, L: []api.Form{f}}
		for k, n := range "lsxrpg" {
			sort := []int{api.LessonS, api.SlotS, api.RoomS, api.RoomS, api.PersonS, api.GroupS}[k]
			if n == 's' && i < 22 {
				sort = api.RoomS
			}
			f.Binds = append(f.Binds, api.Bind{Name: fmt.Sprint(string(n), i), Sort: sort})
		}
	}
	for slot := range 2 {
		if ok, e := eval.Holds(s, sample.Week(slot, 0), []api.Env{{Name: "z", Sort: api.DayS, At: 6}}, f); ok || e != api.OK {
			t.Error("all slots:", ok, e)
		}
	}
	if ok, e := eval.Holds(sample.Plain(1, 1, 1, 1, 1), sample.Week(0, 0), nil, f); !ok || e != api.OK {
		t.Error("the only slot:", ok, e)
	}
}

func TestInsts(t *testing.T) {
	s := tiny()
	for src, want := range map[string]string{
		"hard a: true;":                                              "[[]]",
		"hard a each l: lesson: true;":                               "[[0] [1]]",
		"soft a 2 each s: slot, r: room: false;":                     "[[0 0] [0 1] [1 0] [1 1] [2 0] [2 1]]",
		"hard a each d: day: true;":                                  "[[0] [1] [2] [3] [4] [5] [6]]",
		"hard a each h: house: true;":                                "[[0] [1] [2] [3] [4] [5] [6] [7]]",
		"hard a each r: room, p: person: r = r;":                     "[[0 0] [0 1] [1 0] [1 1]]",
		"hard a each g: group, h: group: g = h;":                     "[[0 0] [0 1] [1 0] [1 1]]",
		"hard a each l: lesson, g: group, p: person: attends(g, l);": "[[0 0 0] [0 0 1] [0 1 0] [0 1 1] [1 0 0] [1 0 1] [1 1 0] [1 1 1]]",
	} {
		if l, e := eval.Insts(s, sample.Rules(src)[0]); e != api.OK || fmt.Sprint(l) != want {
			t.Errorf("%s: %v, %d", src, l, e)
		}
	}
	if l, e := eval.Insts(sample.Plain(0, 1, 1, 0, 0), sample.Rules("hard a each l: lesson, s: slot: true;")[0]); e != api.OK || len(l) != 0 {
		t.Error(l, e)
	}
	if l, e := eval.Insts(sample.Plain(64, 1, 1, 64, 0), sample.Rules("hard a each l: lesson, p: person: true;")[0]); e != api.OK || len(l) != 4096 || !slices.Equal(l[4095], []int{63, 63}) || !slices.Equal(l[64], []int{1, 0}) {
		t.Error(len(l), e)
	}
	bad := sample.Rules("hard a each l: lesson, p: person, s: slot: true;")[0]
	for i, x := range []struct {
		s api.School
		r api.Rule
		e api.Errno
	}{
		{api.School{}, bad, api.ErrArg}, {sample.Plain(64, 51, 1, 64, 0), api.Rule{}, api.ErrBound}, {s, api.Rule{}, api.ErrArg}, {sample.Plain(64, 2, 1, 64, 0), bad, api.ErrBound}, {sample.Plain(64, 1, 1, 64, 0), bad, api.OK},
		{s, api.Rule{Name: "a", Hard: true, Body: sample.Form("x = 1")}, api.ErrVar}, {s, api.Rule{Name: "a", Hard: true, Body: sample.Form("at(x, y)"), Each: []api.Bind{{Name: "x", Sort: 2}}}, api.ErrSort},
		{sample.Plain(64, 50, 32, 64, 64), sample.Rules("hard a each l: lesson, m: lesson, n: lesson, o: lesson, p: lesson, q: lesson: true;")[0], api.ErrBound},
		{sample.Plain(64, 50, 32, 0, 64), sample.Rules("hard a each l: lesson, m: lesson, n: lesson, o: lesson, p: lesson, q: person: true;")[0], api.OK},
	} {
		if l, e := eval.Insts(x.s, x.r); e != x.e || e != api.OK && len(l) > 0 {
			t.Errorf("%d: %d, want %d", i, e, x.e)
		}
	}
}

func TestTheExampleOfTheChapter(t *testing.T) {
	s := sample.Plain(2, 2, 1, 0, 0)
	f := "all l: lesson, m: lesson (l = m | some s: slot (at(l, s) & !at(m, s)))"
	for _, x := range []struct {
		w    api.Week
		want bool
	}{{sample.Week(0, 0, 1, 0), true}, {sample.Week(1, 0, 0, 0), true}, {sample.Week(0, 0, 0, 0), false}, {sample.Week(1, 0, 1, 0), false}} {
		if ok, e := eval.Holds(s, x.w, nil, sample.Form(f)); ok != x.want || e != api.OK {
			t.Error(x.w, ok, e)
		}
		l, e := eval.Broken(s, x.w, sample.Rules("hard x each l: lesson, m: lesson: l = m | some s: slot (at(l, s) & !at(m, s));"))
		if n := map[bool]int{true: 0, false: 2}[x.want]; e != api.OK || len(l) != n {
			t.Error(x.w, l, e)
		}
	}
}

func TestEmptySorts(t *testing.T) {
	s := sample.Plain(0, 1, 1, 0, 0)
	for src, want := range map[string]bool{"all l: lesson (false)": true, "some l: lesson (true)": false, "least 1 l: lesson, s: slot (true)": false, "most 0 s: slot, l: lesson (true)": true, "least 0 l: lesson (true)": true} {
		if ok, e := eval.Holds(s, api.Week{}, nil, sample.Form(src)); ok != want || e != api.OK {
			t.Errorf("%s: %v, %d", src, ok, e)
		}
	}
}

// A week plays no part in a formula without at and in.
func TestFormulasWithoutPlaces(t *testing.T) {
	r := sample.New(1)
	s := tiny()
	weeks, _ := week.All(s, 100)
	seen := 0
	for range 2000 {
		f := r.Form(nil, 5)
		if placed(f) {
			continue
		}
		seen++
		first, _ := eval.Holds(s, weeks[0], nil, f)
		for _, w := range weeks {
			if ok, e := eval.Holds(s, w, nil, f); ok != first || e != api.OK {
				t.Fatal(f, w, ok, e)
			}
		}
	}
	if seen < 100 {
		t.Error(seen)
	}
}

// placed reports whether a formula speaks of at or in.
func placed(f api.Form) bool {
	return f.Kind == api.AtF || f.Kind == api.InF || slices.ContainsFunc(f.L, placed)
}

func TestNormalFormsMeanTheSame(t *testing.T) {
	r := sample.New(2)
	s := tiny()
	weeks, _ := week.All(s, 100)
	for range 1000 {
		f := r.Form(nil, 5)
		w := weeks[r.Below(len(weeks))]
		nnf, e := formula.Nnf(f)
		if formula.Check(nnf) != api.OK {
			continue
		}
		a, e1 := eval.Holds(s, w, nil, f)
		b, e2 := eval.Holds(s, w, nil, nnf)
		if e != api.OK || e1 != api.OK || e2 == api.OK && a != b {
			t.Fatal(f, nnf, a, b, e, e1, e2)
		}
	}
}
