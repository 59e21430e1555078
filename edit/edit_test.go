package edit_test

import (
	"fmt"
	"reflect"
	"slices"
	"strings"
	"testing"

	"chalkline/api"
	"chalkline/edit"
	"chalkline/sample"
)

// plan has the slots a, b and c, the people ann (never away) and bob, two rooms, three lessons and two rules.
func plan() api.Plan {
	return api.Plan{
		School: api.School{
			Slots: []api.Slot{{Name: "a"}, {Name: "b", Hour: 1}, {Name: "c", Hour: 2}}, Rooms: []api.Room{{Name: "hall", Shut: []int{1}}, {Name: "lab"}},
			People: []api.Person{{Name: "ann"}, {Name: "bob", Away: []int{0, 2}}}, Lessons: []api.Lesson{{Name: "x"}, {Name: "y"}, {Name: "z"}},
		},
		Rules:  sample.Rules("hard one: true; soft two 5 each l: lesson: l = l;"),
		Frozen: []int{1},
	}
}

func show(p api.Plan) string { return fmt.Sprintf("%v %v %v", p.School, p.Rules, p.Frozen) }

func edited(change func(p *api.Plan)) api.Plan {
	p := plan()
	change(&p)
	return p
}

func toggle(kind int, name, slot string, off bool) api.Edit {
	return api.Edit{Kind: kind, Name: name, Slot: slot, Off: off}
}

func text(kind int, src string) api.Edit { return api.Edit{Kind: kind, Text: []byte(src)} }

// invalid are plans that are not valid, with what Check reports.
func invalid() map[string]struct {
	p api.Plan
	e api.Errno
} {
	many := make([]api.Rule, 65)
	for i := range many {
		many[i] = api.Rule{Name: fmt.Sprint("r", i), Hard: true, Body: sample.Form("true")}
	}
	untyped := []api.Rule{{Name: "a", Hard: true, Body: sample.Form("x = y")}}
	return map[string]struct {
		p api.Plan
		e api.Errno
	}{
		"no school":       {api.Plan{Frozen: []int{5}}, api.ErrArg},
		"big school":      {edited(func(p *api.Plan) { p.School, p.Rules = sample.Plain(65, 1, 1, 0, 0), many }), api.ErrBound},
		"big and invalid": {edited(func(p *api.Plan) { p.School.Slots, p.Rules = nil, many }), api.ErrArg},
		"many rules":      {edited(func(p *api.Plan) { p.Rules = many }), api.ErrBound},
		"twice":           {edited(func(p *api.Plan) { p.Rules = append(p.Rules, p.Rules[0]) }), api.ErrArg},
		"untyped":         {edited(func(p *api.Plan) { p.Rules, p.Frozen = untyped, []int{9} }), api.ErrVar},
		"frozen -1":       {edited(func(p *api.Plan) { p.Frozen = []int{-1} }), api.ErrArg},
		"frozen 3":        {edited(func(p *api.Plan) { p.Frozen = []int{0, 3} }), api.ErrArg},
		"frozen twice":    {edited(func(p *api.Plan) { p.Frozen = []int{0, 0} }), api.ErrArg},
		"frozen falling":  {edited(func(p *api.Plan) { p.Frozen = []int{2, 1} }), api.ErrArg},
		"frozen far":      {edited(func(p *api.Plan) { p.Frozen = []int{1<<63 - 1} }), api.ErrArg},
	}
}

func TestCheck(t *testing.T) {
	for name, x := range invalid() {
		if e := edit.Check(x.p); e != x.e {
			t.Errorf("%s: %d, want %d", name, e, x.e)
		}
		if p, e := edit.Do(x.p, api.Edit{}); e != x.e || !reflect.DeepEqual(p, api.Plan{}) {
			t.Errorf("%s: Do reports %d, want %d", name, e, x.e)
		}
	}
	for i, p := range []api.Plan{plan(), edited(func(p *api.Plan) { p.Rules, p.Frozen = nil, nil }), edited(func(p *api.Plan) { p.Frozen = []int{0, 1, 2} })} {
		if e := edit.Check(p); e != api.OK {
			t.Error(i, e)
		}
	}
}

func TestDo(t *testing.T) {
	for i, x := range []struct {
		e    api.Edit
		want api.Plan
	}{
		{toggle(api.AwayE, "ann", "b", false), edited(func(p *api.Plan) { p.School.People[0].Away = []int{1} })}, {toggle(api.AwayE, "bob", "b", false), edited(func(p *api.Plan) { p.School.People[1].Away = []int{0, 1, 2} })}, {toggle(api.AwayE, "bob", "a", true), edited(func(p *api.Plan) { p.School.People[1].Away = []int{2} })}, {toggle(api.AwayE, "bob", "c", true), edited(func(p *api.Plan) { p.School.People[1].Away = []int{0} })},
		{toggle(api.ShutE, "lab", "c", false), edited(func(p *api.Plan) { p.School.Rooms[1].Shut = []int{2} })}, {toggle(api.ShutE, "hall", "a", false), edited(func(p *api.Plan) { p.School.Rooms[0].Shut = []int{0, 1} })}, {toggle(api.ShutE, "hall", "b", true), edited(func(p *api.Plan) { p.School.Rooms[0].Shut = nil })},
		{toggle(api.FreezeE, "x", "?", false), edited(func(p *api.Plan) { p.Frozen = []int{0, 1} })}, {toggle(api.FreezeE, "z", "", false), edited(func(p *api.Plan) { p.Frozen = []int{1, 2} })}, {toggle(api.FreezeE, "y", "", true), edited(func(p *api.Plan) { p.Frozen = nil })},
		{text(api.AddE, "hard new: false;"), edited(func(p *api.Plan) { p.Rules = append(p.Rules, sample.Rules("hard new: false;")...) })}, {text(api.ChangeE, "soft one 3: true;"), edited(func(p *api.Plan) { p.Rules[0] = sample.Rules("soft one 3: true;")[0] })}, {text(api.ChangeE, "soft two 5 each m: lesson: m = m;"), edited(func(p *api.Plan) { p.Rules[1] = sample.Rules("soft two 5 each m: lesson: m = m;")[0] })},
		{toggle(api.DropE, "one", "", false), edited(func(p *api.Plan) { p.Rules = p.Rules[1:] })}, {toggle(api.DropE, "two", "zz", true), edited(func(p *api.Plan) { p.Rules = p.Rules[:1] })},
		// Fields that a kind does not use are ignored.
		{api.Edit{Kind: api.AddE, Name: "ann", Slot: "zz", Off: true, Text: []byte("hard new: true;")}, edited(func(p *api.Plan) { p.Rules = append(p.Rules, sample.Rules("hard new: true;")...) })}, {api.Edit{Kind: api.AwayE, Name: "ann", Slot: "a", Text: []byte("?")}, edited(func(p *api.Plan) { p.School.People[0].Away = []int{0} })},
	} {
		p, e := edit.Do(plan(), x.e)
		if e != api.OK || show(p) != show(x.want) {
			t.Errorf("%d: %s, %d; want %s", i, show(p), e, show(x.want))
		}
	}
}

func TestDoErrors(t *testing.T) {
	deep := "hard new: " + strings.Repeat("!", 24) + "true;"
	for i, x := range []struct {
		x api.Edit
		e api.Errno
	}{
		{api.Edit{}, api.ErrArg}, {api.Edit{Kind: 7}, api.ErrArg}, {api.Edit{Kind: -1}, api.ErrArg}, {api.Edit{Kind: 1 << 62}, api.ErrArg},
		{toggle(api.AwayE, "zoe", "a", false), api.ErrName}, {toggle(api.AwayE, "ann", "d", false), api.ErrName}, {toggle(api.AwayE, "", "a", false), api.ErrName}, {toggle(api.AwayE, "hall", "a", true), api.ErrName}, {toggle(api.AwayE, "ann", "a", true), api.ErrEdit}, {toggle(api.AwayE, "bob", "a", false), api.ErrEdit}, {toggle(api.AwayE, "bob", "b", true), api.ErrEdit},
		{toggle(api.ShutE, "ann", "a", false), api.ErrName}, {toggle(api.ShutE, "hall", "x", false), api.ErrName}, {toggle(api.ShutE, "hall", "b", false), api.ErrEdit}, {toggle(api.ShutE, "lab", "b", true), api.ErrEdit}, {toggle(api.FreezeE, "ann", "", false), api.ErrName}, {toggle(api.FreezeE, "y", "", false), api.ErrEdit}, {toggle(api.FreezeE, "x", "", true), api.ErrEdit}, {toggle(api.DropE, "three", "", false), api.ErrName}, {toggle(api.DropE, "", "", false), api.ErrName},
		{text(api.AddE, "hard new"), api.ErrText}, {text(api.AddE, "hard new: 07;"), api.ErrWord}, {text(api.AddE, strings.Repeat(" ", 16385)), api.ErrBound}, {text(api.AddE, deep), api.ErrBound}, {text(api.AddE, ""), api.ErrEdit}, {text(api.AddE, "hard new: true; hard more: true;"), api.ErrEdit}, {text(api.AddE, "hard one: true; hard more: true;"), api.ErrEdit}, {text(api.AddE, "hard new: true; hard new: true;"), api.ErrArg}, {text(api.AddE, "hard one: true;"), api.ErrTwice}, {text(api.AddE, "hard one: x = y;"), api.ErrTwice}, {text(api.AddE, "hard new: x = y;"), api.ErrVar}, {text(api.AddE, "hard new each s: slot: at(s, s);"), api.ErrSort}, {text(api.AddE, "hard new each s: slot, s: slot: true;"), api.ErrTwice},
		{text(api.ChangeE, "hard one"), api.ErrText}, {text(api.ChangeE, ""), api.ErrEdit}, {text(api.ChangeE, "hard one: false; hard two: true;"), api.ErrEdit}, {text(api.ChangeE, "hard new: true;"), api.ErrName}, {text(api.ChangeE, "hard new: x = y;"), api.ErrName}, {text(api.ChangeE, "hard one: x = y;"), api.ErrVar}, {text(api.ChangeE, "hard one: true;"), api.ErrEdit}, {text(api.ChangeE, "# the same\nhard one:(true);"), api.ErrEdit}, {text(api.ChangeE, "soft two 5 each l: lesson: l = l;"), api.ErrEdit},
	} {
		if p, e := edit.Do(plan(), x.x); e != x.e || !reflect.DeepEqual(p, api.Plan{}) {
			t.Errorf("%d: %d, want %d", i, e, x.e)
		}
	}
}

// The limits of a whole plan count for the result as well.
func TestFullPlans(t *testing.T) {
	p := plan()
	for i := range 62 {
		p.Rules = append(p.Rules, api.Rule{Name: fmt.Sprint("r", i), Hard: true, Body: sample.Form("true")})
	}
	if x, e := edit.Do(p, text(api.AddE, "hard new: true;")); e != api.ErrBound || !reflect.DeepEqual(x, api.Plan{}) {
		t.Error(e)
	}
	if _, e := edit.Do(p, text(api.AddE, "hard new: x = y;")); e != api.ErrVar {
		t.Error("the rule comes before the plan:", e)
	}
	if x, e := edit.Do(p, text(api.ChangeE, "hard r61: false;")); e != api.OK || len(x.Rules) != 64 {
		t.Error(e)
	}
	// Each of these texts has some 8500 bytes, so that there is no room for two.
	long := func(name string) string {
		body := strings.Repeat(fmt.Sprintf("%s = %s | ", strings.Repeat("x", 64), strings.Repeat("x", 64)), 21)
		return fmt.Sprintf("hard %s each %s: slot: (%sfalse) & (%sfalse) & (%sfalse);", name, strings.Repeat("x", 64), body, body, body)
	}
	p = plan()
	p.Rules = append(p.Rules, sample.Rules(long("a"))...)
	if x, e := edit.Do(p, text(api.AddE, long("b"))); e != api.ErrBound || !reflect.DeepEqual(x, api.Plan{}) {
		t.Error(e)
	}
	if x, e := edit.Do(p, text(api.ChangeE, long("two"))); e != api.ErrBound || !reflect.DeepEqual(x, api.Plan{}) {
		t.Error(e)
	}
	if _, e := edit.Do(plan(), text(api.AddE, long("b"))); e != api.OK {
		t.Error(e)
	}
}

func TestEditsHaveInverses(t *testing.T) {
	for i, x := range [][2]api.Edit{
		{toggle(api.AwayE, "ann", "b", false), toggle(api.AwayE, "ann", "b", true)}, {toggle(api.AwayE, "bob", "c", true), toggle(api.AwayE, "bob", "c", false)}, {toggle(api.ShutE, "hall", "c", false), toggle(api.ShutE, "hall", "c", true)}, {toggle(api.FreezeE, "z", "", false), toggle(api.FreezeE, "z", "", true)},
		{text(api.AddE, "hard new: true;"), toggle(api.DropE, "new", "", false)}, {text(api.ChangeE, "hard one: false;"), text(api.ChangeE, "hard one: true;")}, {toggle(api.DropE, "two", "", false), text(api.AddE, "soft two 5 each l: lesson: l = l;")},
	} {
		p, e := edit.Do(plan(), x[0])
		q, f := edit.Do(p, x[1])
		if e != api.OK || f != api.OK || show(q) != show(plan()) || edit.Check(p) != api.OK {
			t.Errorf("%d: %d, %d, %s", i, e, f, show(q))
		}
		if _, e := edit.Do(p, x[0]); e == api.OK {
			t.Errorf("%d: done twice", i)
		}
	}
}

func TestEditsOfDifferentThingsCommute(t *testing.T) {
	l := []api.Edit{
		toggle(api.AwayE, "ann", "b", false), toggle(api.AwayE, "ann", "c", false), toggle(api.AwayE, "bob", "a", true), toggle(api.ShutE, "hall", "a", false), toggle(api.ShutE, "lab", "a", false), toggle(api.FreezeE, "x", "", false), toggle(api.FreezeE, "y", "", true), text(api.ChangeE, "hard one: false;"), toggle(api.DropE, "two", "", false),
	}
	for i, x := range l {
		for k, y := range l {
			if i == k {
				continue
			}
			p, e1 := edit.Do(plan(), x)
			p, e2 := edit.Do(p, y)
			q, e3 := edit.Do(plan(), y)
			q, e4 := edit.Do(q, x)
			if show(p) != show(q) || e1 != api.OK || e2 != api.OK || e3 != api.OK || e4 != api.OK {
				t.Error(i, k)
			}
		}
	}
}

func TestArgumentsAreLeftAlone(t *testing.T) {
	roomy := func() api.Plan {
		p := plan()
		p.School.People[1].Away = append(make([]int, 0, 9), p.School.People[1].Away...)
		p.Frozen = append(make([]int, 0, 9), p.Frozen...)
		p.Rules = append(make([]api.Rule, 0, 9), p.Rules...)
		return p
	}
	for i, x := range []api.Edit{
		toggle(api.AwayE, "bob", "b", false), toggle(api.AwayE, "bob", "a", true), toggle(api.ShutE, "hall", "a", false), toggle(api.ShutE, "hall", "b", true), toggle(api.FreezeE, "x", "", false), toggle(api.FreezeE, "y", "", true), text(api.AddE, "hard new: true;"), text(api.ChangeE, "hard one: false;"), toggle(api.DropE, "one", "", false),
	} {
		p := roomy()
		q, e := edit.Do(p, x)
		want := show(q)
		if e != api.OK || show(p) != show(plan()) || p.Rules[:3][2].Name != "" || slices.Max(p.Frozen[:3]) != 1 || p.School.People[1].Away[:3][2] != 0 {
			t.Errorf("%d: an argument was changed", i)
		}
		r, _ := edit.Do(p, x)
		if show(r) != want || show(q) != want {
			t.Errorf("%d: equal calls differ", i)
		}
		clear(x.Text)
		if show(q) != want {
			t.Errorf("%d: a plan shares memory with a text", i)
		}
	}
}
