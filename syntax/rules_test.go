package syntax_test

import (
	"fmt"
	"math/rand/v2"
	"slices"
	"strings"
	"testing"

	"chalkline/api"
	"chalkline/syntax"
)

func hard(name string, body api.Form, each ...api.Bind) api.Rule {
	return api.Rule{Name: name, Hard: true, Each: each, Body: body}
}

func soft(name string, weight int, body api.Form, each ...api.Bind) api.Rule {
	return api.Rule{Name: name, Weight: weight, Each: each, Body: body}
}

func sameRules(a, b []api.Rule) bool {
	return len(a) == len(b) && (len(a) == 0 || fmt.Sprintf("%+v", a) == fmt.Sprintf("%+v", b))
}

func TestPrintAndParse(t *testing.T) {
	one := hard("one", quant(api.SomeF, 0, atom(api.AtF, "l", "s"), bind("s", api.SlotS)), bind("l", api.LessonS))
	all := []api.Bind{bind("a", api.LessonS), bind("b", api.SlotS), bind("c", api.RoomS), bind("d", api.PersonS), bind("e", api.GroupS), bind("f", api.DayS)}
	for text, l := range map[string][]api.Rule{
		"": nil,
		"hard one each l: lesson: some s: slot (at(l, s));\n": {one},
		"soft w 1: true;\n": {soft("w", 1, yes)},
		"soft w_2 1000 each h: house: a = 0 -> b = 0;\nhard z: false;\n":                                  {soft("w_2", 1000, form(api.ImpF, short("a"), short("b")), bind("h", api.HouseS)), hard("z", api.Form{Kind: api.FalseF})},
		"hard all_ each a: lesson, b: slot, c: room, d: person, e: group, f: day: true;\nhard b: true;\n": {hard("all_", yes, all...), hard("b", yes)},
	} {
		if b, e := syntax.Print(l); e != api.OK || string(b) != text {
			t.Errorf("Print: %q, %d; want %q", b, e, text)
		}
		if e := syntax.Check(l); e != api.OK {
			t.Errorf("Check of %q: %d", text, e)
		}
		for _, src := range []string{text, strings.ReplaceAll(text, "\n", ""), "# x\n" + strings.ReplaceAll(text, " ", "\n \t")} {
			if x, at, e := syntax.Parse([]byte(src)); e != api.OK || at != 0 || !sameRules(x, l) {
				t.Errorf("Parse of %q: %+v, %d, %d", src, x, at, e)
			}
		}
	}
}

func TestParseErrors(t *testing.T) {
	for text, want := range map[string]struct {
		at int
		e  api.Errno
	}{
		"true": {0, api.ErrText}, "hard": {4, api.ErrText}, "hard 1": {5, api.ErrText}, "hard soft": {5, api.ErrText}, "hard a": {6, api.ErrText}, "hard a 1: true;": {7, api.ErrText},
		"hard a true;": {7, api.ErrText}, "hard a: true": {12, api.ErrText}, "hard a: ;": {8, api.ErrText}, "hard a:: true;": {7, api.ErrText}, "hard a: true; ;": {14, api.ErrText},
		"soft a: true;": {6, api.ErrText}, "soft a b: true;": {7, api.ErrText}, "soft a 0: true;": {7, api.ErrText}, "soft a 1001: true;": {7, api.ErrText}, "soft a 1099511627776: true;": {7, api.ErrText},
		"soft a 5 5: true;": {9, api.ErrText}, "soft 5 a: true;": {5, api.ErrText}, "hard a each: true;": {11, api.ErrText}, "hard a each x: true;": {15, api.ErrText}, "hard a each x slot: true;": {14, api.ErrText},
		"hard a each x: slot true;": {20, api.ErrText}, "hard a each x: slot, : true;": {21, api.ErrText}, "hard a each x: slot: true; hard": {31, api.ErrText}, "hard a: true; true": {14, api.ErrText},
		"hard a: true true;": {13, api.ErrText}, "Hard a: true;": {0, api.ErrWord}, "hard a: true; +": {14, api.ErrWord}, "true; +": {6, api.ErrWord},
		"hard a: true; hard a: true;": {0, api.ErrArg}, "hard a: true; soft a 3: false;": {0, api.ErrArg}, "hard a: " + strings.Repeat("!", 24) + "true;": {0, api.ErrBound},
		"hard a: true; hard a: " + strings.Repeat("!", 24) + "true;": {0, api.ErrArg}, "hard a: " + strings.Repeat("!", 24) + "true; hard a: true;": {0, api.ErrBound},
		"hard a: true; hard a: true": {26, api.ErrText}, strings.Repeat(" ", 16385): {0, api.ErrBound}, strings.Repeat(" ", 16384): {0, api.OK},
	} {
		l, at, e := syntax.Parse([]byte(text))
		if at != want.at || e != want.e || e != api.OK && len(l) > 0 {
			t.Errorf("Parse of %.60q: %d, %d; want %d, %d", text, at, e, want.at, want.e)
		}
	}
}

func many(n int) (l []api.Rule) {
	for i := range n {
		l = append(l, hard(fmt.Sprint("r", i), yes))
	}
	return l
}

func TestCheckAndPrintErrors(t *testing.T) {
	with := func(change func(r *api.Rule)) []api.Rule {
		l := many(3)
		change(&l[1])
		return l
	}
	seven := slices.Repeat([]api.Bind{bind("x", api.SlotS)}, 7)
	for i, x := range []struct {
		l []api.Rule
		e api.Errno
	}{
		{many(64), api.OK}, {many(65), api.ErrBound}, {append(many(64), api.Rule{}), api.ErrBound}, {append(many(63), api.Rule{}), api.ErrArg},
		{with(func(r *api.Rule) { r.Name = "" }), api.ErrArg}, {with(func(r *api.Rule) { r.Name = "hard" }), api.ErrArg}, {with(func(r *api.Rule) { r.Name = "R" }), api.ErrArg},
		{with(func(r *api.Rule) { r.Name = strings.Repeat("r", 65) }), api.ErrArg}, {with(func(r *api.Rule) { r.Name = strings.Repeat("r", 64) }), api.OK},
		{with(func(r *api.Rule) { r.Name = "r0" }), api.ErrArg}, {with(func(r *api.Rule) { r.Name = "r2" }), api.ErrArg},
		{with(func(r *api.Rule) { r.Weight = 1 }), api.ErrArg}, {with(func(r *api.Rule) { r.Weight = -1 }), api.ErrArg},
		{with(func(r *api.Rule) { r.Hard = false }), api.ErrArg}, {with(func(r *api.Rule) { r.Hard, r.Weight = false, -1 }), api.ErrArg},
		{with(func(r *api.Rule) { r.Hard, r.Weight = false, 1001 }), api.ErrArg}, {with(func(r *api.Rule) { r.Hard, r.Weight = false, 1000 }), api.OK}, {with(func(r *api.Rule) { r.Hard, r.Weight = false, 1 }), api.OK},
		{with(func(r *api.Rule) { r.Each = seven }), api.ErrArg}, {with(func(r *api.Rule) { r.Each = seven[:6] }), api.OK},
		{with(func(r *api.Rule) { r.Each = []api.Bind{bind("slot", 1)} }), api.ErrArg}, {with(func(r *api.Rule) { r.Each = []api.Bind{bind("", 1)} }), api.ErrArg},
		{with(func(r *api.Rule) { r.Each = []api.Bind{bind("x", 0)} }), api.ErrArg}, {with(func(r *api.Rule) { r.Each = []api.Bind{bind("x", 8)} }), api.ErrArg},
		{with(func(r *api.Rule) { r.Each = []api.Bind{bind("x", 1), bind("y", 7)} }), api.OK},
		{with(func(r *api.Rule) { r.Body = api.Form{} }), api.ErrArg}, {with(func(r *api.Rule) { r.Body = deep(24) }), api.ErrBound}, {with(func(r *api.Rule) { r.Body = deep(23) }), api.OK},
		// Rules are checked in order, and a rule before its body.
		{with(func(r *api.Rule) { r.Body, r.Weight = deep(24), 5 }), api.ErrArg}, {with(func(r *api.Rule) { r.Body, r.Name = deep(24), "r2" }), api.ErrBound},
		{with(func(r *api.Rule) { r.Body, r.Name = deep(24), "r0" }), api.ErrArg},
		{append([]api.Rule{hard("x", deep(24))}, api.Rule{}), api.ErrBound}, {append([]api.Rule{{}}, hard("x", deep(24))), api.ErrArg},
	} {
		if e := syntax.Check(x.l); e != x.e {
			t.Errorf("%d: Check reports %d, want %d", i, e, x.e)
		}
		if b, e := syntax.Print(x.l); e != x.e || e != api.OK && len(b) > 0 {
			t.Errorf("%d: Print reports %d, want %d", i, e, x.e)
		}
	}
}

func TestLongTexts(t *testing.T) {
	// 64 rules of 256 bytes each are as long as can be.
	var l []api.Rule
	for i := range 64 {
		r := hard(fmt.Sprintf("r%02d", i), yes)
		for k := range 3 {
			r.Each = append(r.Each, bind(fmt.Sprintf("%c%s", 'a'+k, strings.Repeat("x", 63)), api.LessonS))
		}
		pad := 256 - len("hard r00 each , , , : slot: true;\n") - 3*(64+len(": lesson"))
		r.Each = append(r.Each, bind(strings.Repeat("y", pad), api.SlotS))
		l = append(l, r)
	}
	l[0].Each[3].Name = l[0].Each[3].Name[1:]
	b, e := syntax.Print(l)
	if e != api.OK {
		t.Fatal(len(b), e)
	}
	for len(b) < 16384 {
		l[0].Name += "q"
		if b, e = syntax.Print(l); e != api.OK {
			t.Fatal(len(b), e)
		}
	}
	if x, at, e := syntax.Parse(b); e != api.OK || at != 0 || !sameRules(x, l) {
		t.Error(at, e)
	}
	l[0].Name += "q"
	if x, e := syntax.Print(l); e != api.ErrBound || len(x) > 0 {
		t.Error(len(x), e)
	}
	if e := syntax.Check(l); e != api.ErrBound {
		t.Error(e)
	}
	l[63].Weight = 1
	if e := syntax.Check(l); e != api.ErrArg {
		t.Error("the length counts last:", e)
	}
	// A source may be shorter than its canonical text.
	src := ""
	for i := range 40 {
		src += fmt.Sprintf("hard r%d:%s;", i, strings.TrimSuffix(strings.Repeat("(a=1|(a=1|b<c))&", 23), "&"))
	}
	if l, at, e := syntax.Parse([]byte(src)); len(src) > 16384 || e != api.ErrBound || at != 0 || len(l) > 0 {
		t.Error(len(src), at, e)
	}
	if l, at, e := syntax.Parse([]byte(src[:len(src)/4*3])); e == api.ErrBound || len(l) > 0 {
		t.Error(at, e)
	}
}

func TestTooManyRules(t *testing.T) {
	b, _ := syntax.Print(many(64))
	if l, at, e := syntax.Parse(b); e != api.OK || at != 0 || len(l) != 64 {
		t.Error(len(l), at, e)
	}
	if l, at, e := syntax.Parse(append(b, "hard z: true;"...)); e != api.ErrBound || at != 0 || len(l) > 0 {
		t.Error(len(l), at, e)
	}
	if l, at, e := syntax.Parse(append(b, "hard z: true"...)); e != api.ErrText || at != len(b)+12 || len(l) > 0 {
		t.Error(len(l), at, e)
	}
}

func TestSame(t *testing.T) {
	a := hard("a", form(api.AndF, yes, short("x")), bind("x", 1), bind("y", 2))
	var l []api.Rule
	for _, change := range []func(r *api.Rule){
		func(r *api.Rule) {}, func(r *api.Rule) { r.Name = "b" }, func(r *api.Rule) { r.Hard = false }, func(r *api.Rule) { r.Weight = 7 },
		func(r *api.Rule) { r.Each = r.Each[:1] }, func(r *api.Rule) { r.Each = nil }, func(r *api.Rule) { r.Each = []api.Bind{bind("x", 1), bind("z", 2)} },
		func(r *api.Rule) { r.Each = []api.Bind{bind("x", 3), bind("y", 2)} }, func(r *api.Rule) { r.Body = yes }, func(r *api.Rule) { r.Body = form(api.AndF, yes, short("y")) },
		func(r *api.Rule) { *r = api.Rule{} }, func(r *api.Rule) { r.Body.L = append(slices.Clone(r.Body.L), yes) },
	} {
		r := a
		change(&r)
		l = append(l, r)
	}
	for i, x := range l {
		for k, y := range l {
			if syntax.Same([]api.Rule{x}, []api.Rule{y}) != (i == k) || syntax.Same([]api.Rule{a, x}, []api.Rule{a, y}) != (i == k) {
				t.Error(i, k)
			}
		}
	}
	if !syntax.Same(nil, []api.Rule{}) || syntax.Same(l[:1], l[:2]) || syntax.Same(l[:2], l[:1]) || syntax.Same(nil, l[:1]) {
		t.Error("lists of different lengths")
	}
	x, y := hard("a", yes), hard("a", yes)
	x.Each, x.Body.L, x.Body.Terms = []api.Bind{}, []api.Form{}, []api.Term{}
	if !syntax.Same([]api.Rule{x}, []api.Rule{y}) {
		t.Error("an empty list is a nil one")
	}
}

func TestRandomRules(t *testing.T) {
	r := rand.New(rand.NewPCG(3, 3))
	for range 300 {
		var l []api.Rule
		for i := range r.IntN(5) {
			x := api.Rule{Name: fmt.Sprint("n", i), Hard: r.IntN(2) == 0, Body: random(r, 4)}
			if !x.Hard {
				x.Weight = 1 + r.IntN(1000)
			}
			for range r.IntN(7) {
				x.Each = append(x.Each, bind(string(rune('a'+r.IntN(26))), 1+r.IntN(7)))
			}
			l = append(l, x)
		}
		b, e := syntax.Print(l)
		if e != api.OK || syntax.Check(l) != api.OK {
			t.Fatal(e)
		}
		x, at, e := syntax.Parse(b)
		if e != api.OK || at != 0 || !syntax.Same(x, l) || !sameRules(x, l) {
			t.Fatalf("%s: %d, %d", b, at, e)
		}
		for i, line := range strings.SplitAfter(string(b), "\n")[:len(l)] {
			text, _ := syntax.Text(l[i].Body)
			if !strings.HasSuffix(line, ": "+string(text)+";\n") {
				t.Fatalf("%s does not end with %s", line, text)
			}
		}
	}
}

func TestSourceIsLeftAlone(t *testing.T) {
	src := []byte("hard abc each xyz: slot: hour(xyz) < 3;")
	old := string(src)
	l, _, _ := syntax.Parse(src)
	if string(src) != old {
		t.Error("the source was changed")
	}
	clear(src)
	if l[0].Name != "abc" || l[0].Body.Terms[0].Name != "xyz" {
		t.Error("the rules share memory with the source")
	}
}
