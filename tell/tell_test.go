package tell_test

import (
	"fmt"
	"slices"
	"strings"
	"testing"

	"chalkline/api"
	"chalkline/eval"
	"chalkline/formula"
	"chalkline/ground"
	"chalkline/sample"
	"chalkline/syntax"
	"chalkline/tell"
)

// math has the lesson math, the slots mon1 and tue1, and one of everything else.
func math() api.School {
	return api.School{
		Slots: []api.Slot{{Name: "mon1"}, {Name: "tue1", Day: 1}}, Rooms: []api.Room{{Name: "hall"}}, People: []api.Person{{Name: "ann"}},
		Groups: []api.Group{{Name: "top"}}, Lessons: []api.Lesson{{Name: "math"}, {Name: "art"}},
	}
}

const source = `
hard gone each l: lesson, s: slot: at(l, s) -> hour(s) < 3;
soft big 7 each r: room, p: person, g: group, d: day, h: house: seats(r) > 5 & (house(r) = h | some l: lesson (attends(g, l) & teaches(p, l)));
hard all_ : true;
soft wide 1000 each s: slot: all t: slot (s = t | day(s) != day(t) & s < t);
hard none each l: lesson, m: lesson: !(size(l) = size(m));
hard idle each l: lesson, h: house: true;
`

func rules() []api.Rule { return sample.Rules(source) }

func inst(rule int, binds ...int) api.Inst { return api.Inst{Rule: rule, Binds: binds} }

func TestInst(t *testing.T) {
	for want, i := range map[string]api.Inst{
		"gone (l = math, s = mon1): at(math, mon1) -> hour(mon1) < 3": inst(0, 0, 0),
		"gone (l = art, s = tue1): at(art, tue1) -> hour(tue1) < 3":   inst(0, 1, 1),
		"big (r = hall, p = ann, g = top, d = day6, h = house3): seats(hall) > 5 & (house(hall) = house3 | some l: lesson (attends(top, l) & teaches(ann, l)))": inst(1, 0, 0, 0, 6, 3),
		"all_: true": inst(2),
		"wide (s = tue1): all t: slot (tue1 = t | day(tue1) != day(t) & tue1 < t)": inst(3, 1),
		"none (l = math, m = art): !size(math) = size(art)":                        inst(4, 0, 1),
	} {
		i.T = api.Tree{Kind: 99}
		if got, e := tell.Inst(math(), rules(), i); got != want || e != api.OK {
			t.Errorf("%q, %d; want %q", got, e, want)
		}
	}
}

// wrong are instances that are not valid.
func wrong() []api.Inst {
	far := 1<<63 - 1
	return []api.Inst{inst(-1), inst(6), inst(5, -1, 0), inst(5, 0, -1), inst(5, 0, 8), inst(far), inst(-far - 1), inst(0), inst(0, 0), inst(0, 0, 0, 0), inst(0, 2, 0), inst(0, 0, 2), inst(0, -1, 0), inst(0, 0, -1), inst(0, far, 0), inst(1, 0, 0, 0, 7, 0), inst(1, 0, 0, 0, 0, 8), inst(1, 1, 0, 0, 0, 0), inst(1, 0, 1, 0, 0, 0), inst(1, 0, 0, 1, 0, 0), inst(2, 0), inst(3)}
}

func TestErrors(t *testing.T) {
	s, l := math(), rules()
	twice := append(rules(), rules()[0])
	for i, x := range wrong() {
		if got, e := tell.Inst(s, l, x); got != "" || e != api.ErrArg {
			t.Errorf("%d: %q, %d", i, got, e)
		}
		if got, e := tell.Insts(s, l, []api.Inst{inst(2), x}); len(got) > 0 || e != api.ErrArg {
			t.Errorf("%d: %q, %d", i, got, e)
		}
		if got, e := tell.Why(s, l, []api.Inst{inst(2), x}, api.Why{Kind: api.YesA, Cores: [][]int{{0}, {1}}}); len(got) > 0 || e != api.ErrArg {
			t.Errorf("%d: %q, %d", i, got, e)
		}
	}
	for i, x := range []struct {
		s api.School
		l []api.Rule
		e api.Errno
	}{
		{api.School{}, twice, api.ErrArg}, {sample.Plain(65, 1, 1, 0, 0), twice, api.ErrBound}, {s, twice, api.ErrTwice}, {s, []api.Rule{{Name: "a", Hard: true, Body: sample.Form("x = y")}}, api.ErrVar}, {s, []api.Rule{{}}, api.ErrArg},
	} {
		a, e1 := tell.Inst(x.s, x.l, inst(-1))
		b, e2 := tell.Insts(x.s, x.l, []api.Inst{inst(-1)})
		c, e3 := tell.Insts(x.s, x.l, nil)
		d, e4 := tell.Why(x.s, x.l, nil, api.Why{})
		if e1 != x.e || e2 != x.e || e3 != x.e || e4 != x.e || a != "" || len(b)+len(c)+len(d) > 0 {
			t.Errorf("%d: %d, %d, %d, %d, want %d", i, e1, e2, e3, e4, x.e)
		}
	}
}

// A rule whose text fits may have sentences that do not.
func TestLongSentences(t *testing.T) {
	s := math()
	s.Lessons[0].Name = strings.Repeat("m", 64)
	var body func(n int) api.Form
	body = func(n int) api.Form {
		if n == 1 {
			return sample.Form("l = l")
		}
		return api.Form{Kind: api.AndF, L: []api.Form{body(n / 2), body(n - n/2)}}
	}
	l := []api.Rule{{Name: "a", Hard: true, Body: body(128), Each: []api.Bind{{Name: "l", Sort: api.LessonS}}}}
	if got, e := tell.Inst(s, l, inst(0, 0)); got != "" || e != api.ErrBound {
		t.Error(len(got), e)
	}
	if got, e := tell.Inst(s, l, inst(0, 1)); len(got) < 1000 || e != api.OK {
		t.Error(len(got), e)
	}
	if got, e := tell.Insts(s, l, []api.Inst{inst(0, 1), inst(0, 0), inst(0, 9)}); len(got) > 0 || e != api.ErrBound {
		t.Error(len(got), e)
	}
	if got, e := tell.Why(s, l, []api.Inst{inst(0, 1), inst(0, 9), inst(0, 0)}, api.Why{Kind: api.OutA, Cores: [][]int{{0}}, Fixes: [][]int{{0}, {2}, {1}}}); len(got) > 0 || e != api.ErrBound {
		t.Error(len(got), e)
	}
}

func TestInsts(t *testing.T) {
	s, l := math(), rules()
	got, e := tell.Insts(s, l, []api.Inst{inst(3, 1), inst(0, 1, 0), inst(2), inst(3, 0), inst(0, 0, 1), inst(0, 1, 0)})
	want := []string{
		"hard gone:", "  gone (l = art, s = mon1): at(art, mon1) -> hour(mon1) < 3", "  gone (l = math, s = tue1): at(math, tue1) -> hour(tue1) < 3", "  gone (l = art, s = mon1): at(art, mon1) -> hour(mon1) < 3",
		"hard all_:", "  all_: true",
		"soft 1000 wide:", "  wide (s = tue1): all t: slot (tue1 = t | day(tue1) != day(t) & tue1 < t)", "  wide (s = mon1): all t: slot (mon1 = t | day(mon1) != day(t) & mon1 < t)",
	}
	if !slices.Equal(got, want) || e != api.OK {
		t.Errorf("%q, %d", got, e)
	}
	if got, e := tell.Insts(s, l, nil); len(got) > 0 || e != api.OK {
		t.Error(got, e)
	}
}

func TestWhy(t *testing.T) {
	s, l := math(), rules()
	x := []api.Inst{inst(2), inst(0, 0, 0), inst(3, 0), inst(-1)}
	a, b, c := "  all_: true", "  gone (l = math, s = mon1): at(math, mon1) -> hour(mon1) < 3", "  wide (s = mon1): all t: slot (mon1 = t | day(mon1) != day(t) & mon1 < t)"
	for i, y := range []struct {
		y    api.Why
		want []string
		e    api.Errno
	}{
		{api.Why{Kind: api.YesA}, []string{"that is all"}, api.OK}, {api.Why{Kind: api.OutA}, []string{"there may be more"}, api.OK},
		{api.Why{Kind: api.YesA, Fixes: [][]int{{}}}, []string{"without these there is a week:", "that is all"}, api.OK}, {api.Why{Kind: api.OutA, Cores: [][]int{{}}}, []string{"these can't be together:", "there may be more"}, api.OK},
		{api.Why{Kind: api.YesA, Cores: [][]int{{0, 1}, {2}}, Fixes: [][]int{{2, 0}, {1, 2}}}, []string{"these can't be together:", "hard gone:", b, "hard all_:", a, "these can't be together:", "soft 1000 wide:", c, "without these there is a week:", "hard all_:", a, "soft 1000 wide:", c, "without these there is a week:", "hard gone:", b, "soft 1000 wide:", c, "that is all"}, api.OK},
		{api.Why{}, nil, api.ErrArg}, {api.Why{Kind: api.NoA}, nil, api.ErrArg}, {api.Why{Kind: 4}, nil, api.ErrArg}, {api.Why{Kind: -1}, nil, api.ErrArg},
		{api.Why{Kind: api.YesA, Cores: [][]int{{4}}}, nil, api.ErrArg}, {api.Why{Kind: api.YesA, Cores: [][]int{{-1}}}, nil, api.ErrArg}, {api.Why{Kind: api.YesA, Fixes: [][]int{{0}, {1, 4}}}, nil, api.ErrArg}, {api.Why{Kind: api.YesA, Fixes: [][]int{{1 << 62}}}, nil, api.ErrArg}, {api.Why{Kind: api.OutA, Cores: [][]int{{3}}}, nil, api.ErrArg},
	} {
		if got, e := tell.Why(s, l, x, y.y); !slices.Equal(got, y.want) || e != y.e {
			t.Errorf("%d: %q, %d", i, got, e)
		}
	}
	if got, e := tell.Why(s, l, nil, api.Why{Kind: api.YesA, Cores: [][]int{{0}}}); len(got) > 0 || e != api.ErrArg {
		t.Error(got, e)
	}
}

// The formula of a sentence means the same as the instance, and no two sentences are alike.
func TestSentencesMeanTheInstances(t *testing.T) {
	r := sample.New(1)
	checked := 0
	for range 200 {
		s := r.School(1+r.Below(3), 1+r.Below(3), 1+r.Below(2))
		l := r.Rules(1+r.Below(3), 4)
		old := fmt.Sprint(s, l)
		insts, e := ground.All(s, l)
		if e != api.OK {
			t.Fatal(e)
		}
		w := r.Week(s)
		seen := map[string]bool{}
		for _, i := range insts {
			text, e := tell.Inst(s, l, i)
			if e != api.OK || seen[text] {
				t.Fatal(text, e)
			}
			seen[text] = true
			_, body, _ := strings.Cut(text, ": ")
			f, at, e := syntax.Form([]byte(body))
			if e != api.OK {
				t.Fatal(text, at, e)
			}
			var env, names []api.Env
			for k, b := range l[i.Rule].Each {
				x := api.Env{Name: b.Name, Sort: b.Sort, At: i.Binds[k]}
				env = append(env, x)
				x.Name = nameOf(s, x)
				if slices.Contains(formula.Free(f), x.Name) && !slices.Contains(names, x) {
					names = append(names, x)
				}
			}
			a, e1 := eval.Holds(s, w, env, l[i.Rule].Body)
			b, e2 := eval.Holds(s, w, names, f)
			if e1 != api.OK || e2 != api.OK || a != b {
				t.Fatal(text, a, b, e1, e2)
			}
			checked++
		}
		if fmt.Sprint(s, l) != old {
			t.Fatal("an argument was changed")
		}
	}
	if checked < 1000 {
		t.Error(checked)
	}
}

// nameOf spells the name of an element.
func nameOf(s api.School, x api.Env) string {
	switch x.Sort {
	case api.LessonS:
		return s.Lessons[x.At].Name
	case api.SlotS:
		return s.Slots[x.At].Name
	case api.RoomS:
		return s.Rooms[x.At].Name
	case api.PersonS:
		return s.People[x.At].Name
	case api.GroupS:
		return s.Groups[x.At].Name
	}
	return fmt.Sprint([]string{"day", "house"}[x.Sort-api.DayS], x.At)
}
