package eval_test

import (
	"fmt"
	"testing"

	"chalkline/api"
	"chalkline/eval"
	"chalkline/sample"
)

func TestBroken(t *testing.T) {
	s := tiny()
	l := sample.Rules(`
hard apart each l: lesson, m: lesson: l = m | some s: slot (at(l, s) & !at(m, s));
soft early 3 each l: lesson, s: slot: at(l, s) -> hour(s) < 5;
hard open each l: lesson, r: room, s: slot: shut(r, s) -> !(at(l, s) & in(l, r));
soft one 7: some l: lesson, s: slot (at(l, s) & hour(s) = 3);
hard never: false;`)
	for _, x := range []struct {
		w          api.Week
		broken     string
		hard, cost int
	}{
		{sample.Week(0, 0, 2, 1), "[{1 [0 0]} {1 [1 2]} {3 []} {4 []}]", 1, 13},
		{sample.Week(1, 0, 1, 0), "[{0 [0 1]} {0 [1 0]} {2 [0 0 1]} {2 [1 0 1]} {4 []}]", 5, 0},
		{sample.Week(1, 1, 0, 0), "[{1 [1 0]} {4 []}]", 1, 3},
	} {
		got, e := eval.Broken(s, x.w, l)
		text := ""
		for i, b := range got {
			if i > 0 {
				text += " "
			}
			text += fmt.Sprintf("{%d %v}", b.Rule, b.Binds)
			if fmt.Sprint(b.T) != fmt.Sprint(api.Tree{}) {
				t.Error("a violated instance has a tree")
			}
		}
		if "["+text+"]" != x.broken || e != api.OK {
			t.Errorf("%v: %s, %d; want %s", x.w, text, e, x.broken)
		}
		if h, c, e := eval.Judge(s, x.w, l); h != x.hard || c != x.cost || e != api.OK {
			t.Errorf("%v: %d, %d, %d", x.w, h, c, e)
		}
	}
	if got, e := eval.Broken(s, sample.Week(0, 0, 0, 0), nil); len(got) > 0 || e != api.OK {
		t.Error(got, e)
	}
}

func TestBrokenErrors(t *testing.T) {
	s, w := tiny(), sample.Week(0, 0, 0, 0)
	good := sample.Rules("hard a each l: lesson: true;")
	twice := append(sample.Rules("hard a: true;"), good...)
	big := sample.Plain(64, 50, 1, 64, 0)
	half := "each l: lesson, d: day: l = l;" // 448 instances
	for i, x := range []struct {
		s api.School
		w api.Week
		l []api.Rule
		e api.Errno
	}{
		{api.School{}, w, twice, api.ErrArg}, {sample.Plain(65, 1, 1, 0, 0), w, twice, api.ErrBound}, {s, sample.Week(0, 0), twice, api.ErrPlace}, {s, sample.Week(0, 0, 0, 9), nil, api.ErrPlace}, {s, w, twice, api.ErrTwice},
		{s, w, []api.Rule{{}}, api.ErrArg}, {s, w, []api.Rule{{Name: "a", Hard: true, Body: sample.Form("x = 1")}}, api.ErrVar}, {s, w, []api.Rule{{Name: "a", Hard: true, Body: sample.Form("all x: slot (at(x, x))")}}, api.ErrSort},
		{s, w, good, api.OK}, {big, sample.Zero(big), sample.Rules("hard a each l: lesson, p: person: l = l;"), api.OK}, {big, sample.Zero(big), sample.Rules("hard a each l: lesson, p: person: l = l; hard b: true;"), api.ErrBound},
		{big, sample.Zero(big), sample.Rules("hard b: true; hard a each l: lesson, p: person: l = l;"), api.ErrBound}, {big, sample.Zero(big), sample.Rules("hard a each l: lesson, p: person, s: slot, q: lesson, o: person, n: lesson: true;"), api.ErrBound},
		{big, sample.Zero(big), sample.Rules("hard a each l: lesson, p: person, s: slot, q: lesson, o: person, g: group: true; hard b " + half), api.OK},
		{big, sample.Zero(big), sample.Rules("hard a " + half + "hard b " + half + "hard c " + half + "hard d " + half + "hard e " + half + "hard f " + half + "hard g " + half + "hard h " + half + "hard i " + half), api.OK},
		{big, sample.Zero(big), sample.Rules("hard a " + half + "hard b " + half + "hard c " + half + "hard d " + half + "hard e " + half + "hard f " + half + "hard g " + half + "hard h " + half + "hard i " + half + "hard j " + half), api.ErrBound},
	} {
		if l, e := eval.Broken(x.s, x.w, x.l); e != x.e || e != api.OK && len(l) > 0 {
			t.Errorf("%d: %d, want %d", i, e, x.e)
		}
		if h, c, e := eval.Judge(x.s, x.w, x.l); e != x.e || e != api.OK && (h != 0 || c != 0) {
			t.Errorf("%d: Judge reports %d, want %d", i, e, x.e)
		}
	}
}

// bush is a formula of n nodes without quantifiers.
func bush(n int) api.Form {
	switch {
	case n == 1:
		return api.Form{Kind: api.TrueF}
	case n == 2:
		return api.Form{Kind: api.NotF, L: []api.Form{bush(1)}}
	}
	left := (n - 1) / 2
	return api.Form{Kind: api.ImpF, L: []api.Form{bush(left), bush(n - 1 - left)}}
}

func TestBreadthOfRules(t *testing.T) {
	// 4096 instances of 256 nodes each are as broad as rules may be.
	s := sample.Plain(64, 64/2, 1, 64, 2)
	w := sample.Zero(s)
	rule := func(name string, body api.Form, each string) api.Rule {
		r := sample.Rules("soft x 1 each " + each + ": true;")[0]
		r.Name, r.Body = name, body
		return r
	}
	all, half := "l: lesson, p: person", "l: lesson, s: slot"
	tuples := api.Form{Kind: api.SomeF, Binds: []api.Bind{{Name: "x", Sort: api.SlotS}, {Name: "y", Sort: api.HouseS}}, L: []api.Form{bush(1)}}
	not := func(f api.Form) api.Form { return api.Form{Kind: api.NotF, L: []api.Form{f}} }
	for i, x := range []struct {
		l []api.Rule
		e api.Errno
	}{
		{[]api.Rule{rule("a", bush(256), all)}, api.OK},
		{[]api.Rule{rule("a", tuples, all)}, api.ErrBound}, // 1 + 32 * 8 parts
		{[]api.Rule{rule("a", bush(256), half), rule("b", bush(256), half)}, api.OK},
		{[]api.Rule{rule("a", bush(255), half), rule("b", tuples, half)}, api.OK},
		{[]api.Rule{rule("a", bush(256), half), rule("b", tuples, half)}, api.ErrBound},
		{[]api.Rule{rule("a", tuples, half), rule("b", bush(256), half)}, api.ErrBound},
		{[]api.Rule{rule("a", not(tuples), half), rule("b", bush(255), half)}, api.ErrBound},
		{[]api.Rule{rule("a", not(tuples), half), rule("b", bush(254), half)}, api.OK},
	} {
		if l, e := eval.Broken(s, w, x.l); e != x.e || e != api.OK && len(l) > 0 {
			t.Errorf("%d: %d, want %d", i, e, x.e)
		}
	}
}

func TestArgumentsAreLeftAlone(t *testing.T) {
	s, w := tiny(), sample.Week(0, 0, 0, 0)
	l := sample.Rules("hard a each l: lesson, s: slot: all r: room (some q: slot (at(l, s) & at(l, q) & in(l, r)));")
	old := fmt.Sprint(s, w, l)
	a, _ := eval.Broken(s, w, l)
	b, _ := eval.Insts(s, l[0])
	if fmt.Sprint(s, w, l) != old {
		t.Error("an argument was changed")
	}
	text := fmt.Sprint(a[1:], b[1:])
	a[0].Binds[0], b[0][0] = 9, 9
	a[0].Binds, b[0] = append(a[0].Binds[:1], 9, 9, 9), append(b[0][:1], 9, 9, 9)
	if fmt.Sprint(a[1:], b[1:]) != text {
		t.Error("tuples share memory")
	}
	c, _ := eval.Broken(s, w, l)
	if fmt.Sprint(c[1:]) != fmt.Sprint(a[1:]) {
		t.Error("equal calls differ")
	}
}
