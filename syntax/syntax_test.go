package syntax_test

import (
	"fmt"
	"math/rand/v2"
	"slices"
	"strings"
	"testing"

	"chalkline/api"
	"chalkline/formula"
	"chalkline/syntax"
)

func v(name string) api.Term { return api.Term{Kind: api.VarT, Name: name} }

func num(n int) api.Term { return api.Term{Kind: api.NumT, N: n} }

func atom(kind int, a, b string) api.Form {
	return api.Form{Kind: kind, Terms: []api.Term{v(a), v(b)}}
}

func cmp(a api.Term, op string, b api.Term) api.Form {
	return api.Form{Kind: api.CmpF, Name: op, Terms: []api.Term{a, b}}
}

func form(kind int, l ...api.Form) api.Form { return api.Form{Kind: kind, L: l} }

func quant(kind, n int, f api.Form, binds ...api.Bind) api.Form {
	return api.Form{Kind: kind, N: n, Binds: binds, L: []api.Form{f}}
}

func bind(name string, sort int) api.Bind { return api.Bind{Name: name, Sort: sort} }

var yes = api.Form{Kind: api.TrueF}

// a, b and c are comparisons that print as themselves.
func short(name string) api.Form { return cmp(v(name), "=", num(0)) }

func sameForm(f, g api.Form) bool { return fmt.Sprintf("%+v", f) == fmt.Sprintf("%+v", g) }

// canonical are formulas and their canonical texts.
func canonical() map[string]api.Form {
	a, b, c := short("a"), short("b"), short("c")
	and, or, imp, not := api.AndF, api.OrF, api.ImpF, api.NotF
	m := map[string]api.Form{
		"true": yes, "false": {Kind: api.FalseF},
		"at(x, y)": atom(api.AtF, "x", "y"), "in(x, y)": atom(api.InF, "x", "y"), "teaches(x, y)": atom(api.TeachesF, "x", "y"),
		"attends(x, y)": atom(api.AttendsF, "x", "y"), "away(x, y)": atom(api.AwayF, "x", "y"), "shut(x, y)": atom(api.ShutF, "x", "y"),
		"!at(x, y)": form(not, atom(api.AtF, "x", "y")), "!a = 0": form(not, a), "!!true": form(not, form(not, yes)),
		"day(s) != day(t)":                                 cmp(api.Term{Kind: api.DayT, Name: "s"}, "!=", api.Term{Kind: api.DayT, Name: "t"}),
		"hour(s) < 1099511627776":                          cmp(api.Term{Kind: api.HourT, Name: "s"}, "<", num(1<<40)),
		"house(r) <= h":                                    cmp(api.Term{Kind: api.HouseT, Name: "r"}, "<=", v("h")),
		"seats(r) > size(l)":                               cmp(api.Term{Kind: api.SeatsT, Name: "r"}, ">", api.Term{Kind: api.SizeT, Name: "l"}),
		"0 >= x_1":                                         cmp(num(0), ">=", v("x_1")),
		"all x: lesson (true)":                             quant(api.AllF, 0, yes, bind("x", api.LessonS)),
		"some x: slot, y: room, z: person (true)":          quant(api.SomeF, 0, yes, bind("x", api.SlotS), bind("y", api.RoomS), bind("z", api.PersonS)),
		"least 0 x: group (a = 0 & b = 0)":                 quant(api.LeastF, 0, form(and, a, b), bind("x", api.GroupS)),
		"most 12 x: day, x: house (!(a = 0 | b = 0))":      quant(api.MostF, 12, form(not, form(or, a, b)), bind("x", api.DayS), bind("x", api.HouseS)),
		"least 1099511627776 x: slot (true)":               quant(api.LeastF, 1<<40, yes, bind("x", api.SlotS)),
		"!all x: slot (true)":                              form(not, quant(api.AllF, 0, yes, bind("x", api.SlotS))),
		"all x: slot (true) & true":                        form(and, quant(api.AllF, 0, yes, bind("x", api.SlotS)), yes),
		"!(a = b | true) -> x < 3":                         form(imp, form(not, form(or, cmp(v("a"), "=", v("b")), yes)), cmp(v("x"), "<", num(3))),
		"(a = 0 -> b = 0) -> all x: slot (a = 0 -> b = 0)": form(imp, form(imp, a, b), quant(api.AllF, 0, form(imp, a, b), bind("x", api.SlotS))),
	}
	for text, f := range map[string]api.Form{
		"a & b & c": form(and, form(and, a, b), c), "a & (b & c)": form(and, a, form(and, b, c)),
		"a | b | c": form(or, form(or, a, b), c), "a | (b | c)": form(or, a, form(or, b, c)),
		"a -> b -> c": form(imp, a, form(imp, b, c)), "(a -> b) -> c": form(imp, form(imp, a, b), c),
		"a & b | c": form(or, form(and, a, b), c), "a | b & c": form(or, a, form(and, b, c)),
		"(a | b) & c": form(and, form(or, a, b), c), "a & (b | c)": form(and, a, form(or, b, c)),
		"(a -> b) & c": form(and, form(imp, a, b), c), "a & (b -> c)": form(and, a, form(imp, b, c)),
		"(a -> b) | c": form(or, form(imp, a, b), c), "a | (b -> c)": form(or, a, form(imp, b, c)),
		"a & b -> c": form(imp, form(and, a, b), c), "a -> b & c": form(imp, a, form(and, b, c)),
		"a | b -> c": form(imp, form(or, a, b), c), "a -> b | c": form(imp, a, form(or, b, c)),
		"!(a & b)": form(not, form(and, a, b)), "!(a | b)": form(not, form(or, a, b)), "!(a -> b)": form(not, form(imp, a, b)),
		"!a & !b": form(and, form(not, a), form(not, b)), "!a | !b": form(or, form(not, a), form(not, b)), "!a -> !b": form(imp, form(not, a), form(not, b)),
	} {
		m[strings.NewReplacer("a", "a = 0", "b", "b = 0", "c", "c = 0").Replace(text)] = f
	}
	return m
}

func TestTextAndForm(t *testing.T) {
	for text, f := range canonical() {
		if b, e := syntax.Text(f); e != api.OK || string(b) != text {
			t.Errorf("Text: %q, %d; want %q", b, e, text)
		}
		if g, at, e := syntax.Form([]byte(text)); e != api.OK || at != 0 || !sameForm(f, g) {
			t.Errorf("Form of %q: %+v, %d, %d", text, g, at, e)
		}
		// Nothing depends on the white space.
		wide := "# c\n" + strings.NewReplacer(" ", "\n\t ", "(", "( ", ")", " )#\n").Replace(text)
		if g, at, e := syntax.Form([]byte(wide)); e != api.OK || at != 0 || !sameForm(f, g) {
			t.Errorf("Form of %q: %+v, %d, %d", wide, g, at, e)
		}
	}
}

func TestFormOfOtherTexts(t *testing.T) {
	a, b, c := short("a"), short("b"), short("c")
	for text, f := range map[string]api.Form{
		"((true))": yes, "(a=0)&((b=0)&c=0)": form(api.AndF, a, form(api.AndF, b, c)), "((a=0&b=0))&c=0": form(api.AndF, form(api.AndF, a, b), c),
		"a=0->(b=0->c=0)": form(api.ImpF, a, form(api.ImpF, b, c)), "!(true)": form(api.NotF, yes), "(!true)|true": form(api.OrF, form(api.NotF, yes), yes),
		"all x:slot((true))": quant(api.AllF, 0, yes, bind("x", api.SlotS)),
	} {
		if g, at, e := syntax.Form([]byte(text)); e != api.OK || at != 0 || !sameForm(f, g) {
			t.Errorf("Form of %q: %+v, %d, %d", text, g, at, e)
		}
	}
}

func TestFormErrors(t *testing.T) {
	nots := strings.Repeat("!", 24)
	wide := "true" + strings.Repeat("&true", 23)
	for text, want := range map[string]struct {
		at int
		e  api.Errno
	}{
		"": {0, api.ErrText}, " #": {2, api.ErrText}, "a = b &": {7, api.ErrText}, "true true": {5, api.ErrText}, "a": {1, api.ErrText}, "a b": {2, api.ErrText},
		"(true": {5, api.ErrText}, "true)": {4, api.ErrText}, "()": {1, api.ErrText}, "a = b = c": {6, api.ErrText}, "at(1, s)": {3, api.ErrText}, "at(l s)": {5, api.ErrText},
		"at(l, hard)": {6, api.ErrText}, "at(l, s": {7, api.ErrText}, "at l": {3, api.ErrText}, "day(3) = 1": {4, api.ErrText}, "day = 1": {4, api.ErrText},
		"slot = 1": {0, api.ErrText}, "x = slot": {4, api.ErrText}, "x = at": {4, api.ErrText}, "x := y": {2, api.ErrText}, "all x (true)": {6, api.ErrText}, "all x: int (true)": {7, api.ErrText},
		"all all: slot (true)": {4, api.ErrText}, "all 3 x: slot (true)": {4, api.ErrText}, "least x: slot (true)": {6, api.ErrText}, "most -> (true)": {5, api.ErrText},
		"some x: slot true": {13, api.ErrText}, "some x: slot (true": {18, api.ErrText}, "some x: slot, (true)": {14, api.ErrText}, "some x: slot ()": {14, api.ErrText},
		"& true": {0, api.ErrText}, "true | | true": {7, api.ErrText}, "true -> ": {8, api.ErrText}, "-> true": {0, api.ErrText}, "hard": {0, api.ErrText}, "true;": {4, api.ErrText},
		"! ": {2, api.ErrText}, "x = all": {4, api.ErrText}, "true { }": {5, api.ErrText}, "number = size(x, y)": {15, api.ErrText}, "x.y = 1": {1, api.ErrText},
		"true $": {5, api.ErrWord}, "true true $": {10, api.ErrWord}, "x = 07": {4, api.ErrWord}, "x = 1099511627777": {4, api.ErrWord},
		nots + "true": {0, api.ErrBound}, nots[1:] + "true": {0, api.OK}, wide: {0, api.OK}, wide + "&true": {0, api.ErrBound}, nots + "tru": {27, api.ErrText},
		strings.Repeat("(", 4000) + "true" + strings.Repeat(")", 4000): {0, api.OK},
		strings.Repeat("(", 16384):                                     {16384, api.ErrText},
		strings.Repeat("!", 16380) + "true":                            {0, api.ErrBound},
		strings.Repeat(" ", 16380) + "true":                            {0, api.OK},
		strings.Repeat(" ", 16381) + "true":                            {0, api.ErrBound},
		strings.Repeat("true->", 3000) + strings.Repeat(" ", 9):        {0, api.ErrBound},
	} {
		f, at, e := syntax.Form([]byte(text))
		if at != want.at || e != want.e {
			t.Errorf("Form of %.60q: %d, %d; want %d, %d", text, at, e, want.at, want.e)
		}
		if e != api.OK && !sameForm(f, api.Form{}) {
			t.Errorf("Form of %.60q tells a formula beside an error", text)
		}
	}
}

func TestTextErrors(t *testing.T) {
	for i, x := range []struct {
		f api.Form
		e api.Errno
	}{
		{api.Form{}, api.ErrArg}, {form(api.AndF, yes), api.ErrArg}, {atom(api.AtF, "x", "hard"), api.ErrArg}, {deep(25), api.ErrBound}, {quant(api.AllF, 0, yes), api.ErrArg},
	} {
		if b, e := syntax.Text(x.f); e != x.e || len(b) > 0 {
			t.Errorf("%d: %q, %d", i, b, e)
		}
	}
}

func deep(n int) api.Form {
	f := yes
	for range n {
		f = form(api.NotF, f)
	}
	return f
}

// long is a formula of n atoms whose names take up the given number of bytes together.
func long(n, bytes int) api.Form {
	if n == 1 {
		a := min(64, max(1, bytes-1))
		return atom(api.AtF, strings.Repeat("a", a), strings.Repeat("b", min(64, max(1, bytes-a))))
	}
	left := n / 2
	return form(api.AndF, long(left, bytes*left/n), long(n-left, bytes-bytes*left/n))
}

func TestTextOfTheGreatestLength(t *testing.T) {
	b, e := syntax.Text(long(128, 256))
	if e != api.OK {
		t.Fatal(e)
	}
	room := 16384 - len(b)
	for more, want := range map[int]api.Errno{room - 1: api.OK, room: api.OK, room + 1: api.ErrBound, room + 90: api.ErrBound} {
		x, e := syntax.Text(long(128, 256+more))
		if e != want || e == api.OK && len(x) != len(b)+more || e != api.OK && len(x) > 0 {
			t.Errorf("%d bytes more: %d bytes, %d", more, len(x), e)
		}
	}
}

// random makes a well-formed formula of at most the given depth.
func random(r *rand.Rand, depth int) api.Form {
	name := func() string { return []string{"a", "b1", "c_", "xyz"}[r.IntN(4)] }
	term := func() api.Term {
		if r.IntN(3) == 0 {
			return num(r.IntN(2000))
		}
		return api.Term{Kind: 2 + r.IntN(6), Name: name()}
	}
	kind := 1 + r.IntN(17)
	if depth == 1 {
		kind = 1 + r.IntN(9)
	}
	switch {
	case kind <= api.FalseF:
		return api.Form{Kind: kind}
	case kind < api.CmpF:
		return atom(kind, name(), name())
	case kind == api.CmpF:
		return cmp(term(), []string{"=", "!=", "<", "<=", ">", ">="}[r.IntN(6)], term())
	case kind == api.NotF:
		return form(kind, random(r, depth-1))
	case kind <= api.ImpF:
		return form(kind, random(r, depth-1), random(r, depth-1))
	}
	n := 0
	if kind >= api.LeastF {
		n = r.IntN(5)
	}
	var l []api.Bind
	for range 1 + r.IntN(6) {
		l = append(l, bind(name(), 1+r.IntN(7)))
	}
	return quant(kind, n, random(r, depth-1), l...)
}

func TestRandomFormulas(t *testing.T) {
	r := rand.New(rand.NewPCG(2, 2))
	pairs := 0
	for range 1500 {
		f := random(r, 6)
		b, e := syntax.Text(f)
		if e != api.OK {
			t.Fatal(e)
		}
		g, at, e := syntax.Form(b)
		if e != api.OK || at != 0 || !formula.Same(f, g) {
			t.Fatalf("%s: %d, %d", b, at, e)
		}
		// No pair of parentheses may be left out.
		var open []int
		for i, c := range b {
			if c == '(' {
				open = append(open, i)
			}
			if c != ')' {
				continue
			}
			start := open[len(open)-1]
			open = open[:len(open)-1]
			less := slices.Concat(b[:start], []byte(" "), b[start+1:i], []byte(" "), b[i+1:])
			if h, _, e := syntax.Form(less); e == api.OK && formula.Same(f, h) {
				t.Fatalf("%s: a pair of parentheses is redundant", b)
			}
			pairs++
		}
	}
	if pairs < 1000 {
		t.Error(pairs)
	}
}
