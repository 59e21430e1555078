package formula_test

import (
	"math/rand/v2"
	"testing"

	"chalkline/api"
	"chalkline/formula"
)

func not(f api.Form) api.Form { return form(api.NotF, f) }

func TestNnf(t *testing.T) {
	and, or, imp := api.AndF, api.OrF, api.ImpF
	d := cmp(v("a"), ">=", num(3))
	most := api.MaxNum
	for i, x := range []struct{ f, pos, neg api.Form }{
		{yes, yes, no}, {no, no, yes}, {p, p, not(p)}, {not(p), not(p), p}, {not(not(q)), q, not(q)}, {not(yes), no, yes},
		{form(and, p, c), form(and, p, c), form(or, not(p), d)},
		{form(or, p, c), form(or, p, c), form(and, not(p), d)},
		{form(imp, p, q), form(or, not(p), q), form(and, p, not(q))},
		{form(imp, form(imp, p, q), c), form(or, form(and, p, not(q)), c), form(and, form(or, not(p), q), d)},
		{quant(api.AllF, 0, p, "l", "x"), quant(api.AllF, 0, p, "l", "x"), quant(api.SomeF, 0, not(p), "l", "x")},
		{quant(api.SomeF, 0, p, "l", "x"), quant(api.SomeF, 0, p, "l", "x"), quant(api.AllF, 0, not(p), "l", "x")},
		{quant(api.AllF, 0, not(c), "l"), quant(api.AllF, 0, d, "l"), quant(api.SomeF, 0, c, "l")},
		{quant(api.LeastF, 2, p, "l", "x"), quant(api.LeastF, 2, p, "l", "x"), quant(api.MostF, 1, p, "l", "x")},
		{quant(api.LeastF, 1, p, "l"), quant(api.LeastF, 1, p, "l"), quant(api.MostF, 0, p, "l")},
		{quant(api.MostF, 0, p, "l"), quant(api.MostF, 0, p, "l"), quant(api.LeastF, 1, p, "l")},
		{quant(api.MostF, 7, not(c), "l"), quant(api.MostF, 7, d, "l"), quant(api.LeastF, 8, d, "l")},
		{quant(api.LeastF, 3, form(imp, p, q), "l"), quant(api.LeastF, 3, form(or, not(p), q), "l"), quant(api.MostF, 2, form(or, not(p), q), "l")},
		{quant(api.LeastF, 0, p, "l"), yes, no}, {quant(api.MostF, most, p, "l"), yes, no},
		{quant(api.LeastF, most, p, "l"), quant(api.LeastF, most, p, "l"), quant(api.MostF, most-1, p, "l")},
		{quant(api.MostF, most-1, p, "l"), quant(api.MostF, most-1, p, "l"), quant(api.LeastF, most, p, "l")},
		{form(and, not(quant(api.LeastF, 0, p, "l")), not(quant(api.MostF, most, p, "l"))), form(and, no, no), form(or, yes, yes)},
	} {
		if g, e := formula.Nnf(x.f); e != api.OK || show(g) != show(x.pos) {
			t.Errorf("%d: %s, %d; want %s", i, show(g), e, show(x.pos))
		}
		if g, e := formula.Nnf(not(x.f)); e != api.OK || show(g) != show(x.neg) {
			t.Errorf("%d, negated: %s, %d; want %s", i, show(g), e, show(x.neg))
		}
	}
	for kind := api.AtF; kind <= api.ShutF; kind++ {
		f := atom(kind, "x", "y")
		g, e1 := formula.Nnf(f)
		h, e2 := formula.Nnf(not(f))
		if e1 != api.OK || e2 != api.OK || show(g) != show(f) || show(h) != show(not(f)) {
			t.Error(show(g), show(h))
		}
	}
	for op, other := range map[string]string{"=": "!=", "!=": "=", "<": ">=", ">=": "<", "<=": ">", ">": "<="} {
		g, e1 := formula.Nnf(cmp(v("x"), op, v("y")))
		h, e2 := formula.Nnf(not(cmp(v("x"), op, v("y"))))
		if e1 != api.OK || e2 != api.OK || show(g) != show(cmp(v("x"), op, v("y"))) || show(h) != show(cmp(v("x"), other, v("y"))) {
			t.Error(op, show(g), show(h))
		}
	}
}

func TestNnfExample(t *testing.T) {
	f := not(form(api.ImpF, q, quant(api.LeastF, 2, p, "s")))
	g, e := formula.Nnf(f)
	if want := form(api.AndF, q, quant(api.MostF, 1, p, "s")); e != api.OK || show(g) != show(want) {
		t.Error(show(g), e)
	}
}

// normal reports whether NotF occurs only above atoms other than comparisons, and ImpF nowhere.
func normal(f api.Form) bool {
	if f.Kind == api.ImpF || f.Kind == api.NotF && (f.L[0].Kind < api.AtF || f.L[0].Kind > api.ShutF) {
		return false
	}
	for _, g := range f.L {
		if !normal(g) {
			return false
		}
	}
	return true
}

func TestNnfOfRandomFormulas(t *testing.T) {
	r := rand.New(rand.NewPCG(4, 4))
	for range 3000 {
		f := random(r, 6)
		pos, e := formula.Nnf(f)
		if e != api.OK || !normal(pos) {
			t.Fatal(show(f), show(pos), e)
		}
		if again, e := formula.Nnf(pos); e == api.OK && show(again) != show(pos) || e == api.ErrArg {
			t.Fatal("not idempotent", show(f), show(pos), e)
		}
		if twice, e := formula.Nnf(not(not(f))); e != api.OK || show(twice) != show(pos) {
			t.Fatal("neg of neg is not pos", show(f), e)
		}
		neg, e := formula.Nnf(not(f))
		if e != api.OK || !normal(neg) {
			t.Fatal(show(f), show(neg), e)
		}
		if holds(f) != holds(pos) || holds(f) == holds(neg) {
			t.Fatal("another meaning", show(f), show(pos), show(neg))
		}
	}
}

// holds evaluates a formula in a world where every sort has two elements and an atom is true as its own text tells.
func holds(f api.Form) bool {
	subs := 0
	for _, g := range f.L {
		if holds(g) {
			subs++
		}
	}
	tuples := 1 << len(f.Binds)
	switch f.Kind {
	case api.TrueF:
		return true
	case api.FalseF:
		return false
	case api.CmpF:
		a, b := len(f.Terms[0].Name)+f.Terms[0].Kind%3, f.Terms[1].N
		return map[string]bool{"=": a == b, "!=": a != b, "<": a < b, "<=": a <= b, ">": a > b, ">=": a >= b}[f.Name]
	case api.NotF:
		return subs == 0
	case api.AndF:
		return subs == 2
	case api.OrF:
		return subs > 0
	case api.ImpF:
		return holds(f.L[1]) || !holds(f.L[0])
	case api.AllF, api.SomeF:
		return subs == 1
	case api.LeastF:
		return subs*tuples >= f.N
	case api.MostF:
		return subs*tuples <= f.N
	}
	return (f.Kind+int(f.Terms[0].Name[0])+int(f.Terms[1].Name[0]))%2 == 0
}

func TestNnfMayGrow(t *testing.T) {
	f := bushOf(p, 128)
	g, e := formula.Nnf(not(f))
	if e != api.OK || formula.Size(g) != 255+128 || formula.Depth(g) != formula.Depth(f)+1 {
		t.Error(formula.Size(g), formula.Depth(g), e)
	}
}

// bushOf is bush with n copies of f for its leaves.
func bushOf(f api.Form, n int) api.Form {
	if n == 1 {
		return f
	}
	return form(api.AndF, bushOf(f, n/2), bushOf(f, n-n/2))
}
