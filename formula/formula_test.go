package formula_test

import (
	"fmt"
	"math/rand/v2"
	"reflect"
	"slices"
	"strings"
	"testing"

	"chalkline/api"
	"chalkline/formula"
)

func v(name string) api.Term { return api.Term{Kind: api.VarT, Name: name} }

func num(n int) api.Term { return api.Term{Kind: api.NumT, N: n} }

func atom(kind int, a, b string) api.Form {
	return api.Form{Kind: kind, Terms: []api.Term{v(a), v(b)}}
}

func cmp(a api.Term, op string, b api.Term) api.Form {
	return api.Form{Kind: api.CmpF, Name: op, Terms: []api.Term{a, b}}
}

func form(kind int, l ...api.Form) api.Form { return api.Form{Kind: kind, L: l} }

func quant(kind, n int, f api.Form, names ...string) api.Form {
	q := api.Form{Kind: kind, N: n, L: []api.Form{f}}
	for i, name := range names {
		q.Binds = append(q.Binds, api.Bind{Name: name, Sort: 1 + i%7})
	}
	return q
}

var (
	yes = api.Form{Kind: api.TrueF}
	no  = api.Form{Kind: api.FalseF}
	p   = atom(api.AtF, "l", "s")
	q   = atom(api.InF, "l", "r")
	c   = cmp(v("a"), "<", num(3))
)

// show spells every field of a formula, so that equal texts are equal formulas.
func show(f api.Form) string {
	return fmt.Sprintf("%d %q %d %v %v %v", f.Kind, f.Name, f.N, f.Terms, f.Binds, showAll(f.L))
}

func showAll(l []api.Form) string {
	out := ""
	for _, f := range l {
		out += "(" + show(f) + ")"
	}
	return out
}

// random makes a well-formed formula of at most the given depth.
func random(r *rand.Rand, depth int) api.Form {
	name := func() string { return string(rune('a' + r.IntN(5))) }
	kind := 1 + r.IntN(17)
	if depth == 1 {
		kind = 1 + r.IntN(9)
	}
	switch {
	case kind <= api.FalseF:
		return api.Form{Kind: kind}
	case kind < api.CmpF:
		return atom(kind, name(), name())
	case kind == api.CmpF:
		ops := []string{"=", "!=", "<", "<=", ">", ">="}
		return cmp(api.Term{Kind: 2 + r.IntN(6), Name: name()}, ops[r.IntN(6)], num(r.IntN(4)))
	case kind == api.NotF:
		return form(kind, random(r, depth-1))
	case kind <= api.ImpF:
		return form(kind, random(r, depth-1), random(r, depth-1))
	}
	n := 0
	if kind >= api.LeastF {
		n = []int{0, 1, 2, api.MaxNum - 1, api.MaxNum}[r.IntN(5)]
	}
	return quant(kind, n, random(r, depth-1), []string{name(), name(), name()}[:1+r.IntN(3)]...)
}

// chain puts NotF around f, n times.
func chain(n int, f api.Form) api.Form {
	for range n {
		f = form(api.NotF, f)
	}
	return f
}

// bush is a well-formed formula of 2n - 1 nodes and small depth.
func bush(n int) api.Form {
	if n == 1 {
		return yes
	}
	return form(api.AndF, bush(n/2), bush(n-n/2))
}

func TestSizeAndDepth(t *testing.T) {
	odd := api.Form{Kind: 99, L: []api.Form{{}, {L: []api.Form{{}, {}, {}}}, p}}
	for i, x := range []struct {
		f           api.Form
		size, depth int
	}{
		{api.Form{}, 1, 1}, {yes, 1, 1}, {p, 1, 1}, {form(api.NotF, p), 2, 2}, {form(api.AndF, p, form(api.NotF, q)), 4, 3},
		{form(api.AndF, form(api.NotF, q), p), 4, 3}, {odd, 7, 3}, {chain(40, c), 41, 41}, {bush(64), 127, 7}, {chain(60000, c), 60001, 60001},
		{form(api.AllF, chain(2, yes), chain(5, yes), chain(1, yes)), 12, 7},
	} {
		if s, d := formula.Size(x.f), formula.Depth(x.f); s != x.size || d != x.depth {
			t.Errorf("%d: size %d, depth %d; want %d, %d", i, s, d, x.size, x.depth)
		}
	}
}

func TestCheckOfWellFormedFormulas(t *testing.T) {
	long := strings.Repeat("x", 64)
	l := []api.Form{
		yes, no, form(api.NotF, yes), form(api.AndF, p, q), form(api.OrF, p, q), form(api.ImpF, p, q), chain(23, yes), bush(128),
		quant(api.AllF, 0, p, "l"), quant(api.SomeF, 0, p, "a", "b", "c", "d", "e", "f"), quant(api.LeastF, 0, p, "a"),
		quant(api.LeastF, api.MaxNum, p, "a"), quant(api.MostF, 0, p, "a"), quant(api.MostF, api.MaxNum, p, "a"), quant(api.AllF, 0, p, "a", "a"),
		cmp(num(0), "=", num(api.MaxNum)), atom(api.AtF, long, "x"), cmp(v(long), "=", num(1)),
	}
	for kind := api.AtF; kind <= api.ShutF; kind++ {
		l = append(l, atom(kind, "a", "b"))
	}
	for _, op := range []string{"=", "!=", "<", "<=", ">", ">="} {
		l = append(l, cmp(v("a"), op, num(1)))
	}
	for kind := api.VarT; kind <= api.SizeT; kind++ {
		l = append(l, cmp(api.Term{Kind: kind, Name: "x"}, "=", api.Term{Kind: kind, Name: "y"}))
	}
	for sort := api.LessonS; sort <= api.HouseS; sort++ {
		l = append(l, api.Form{Kind: api.AllF, Binds: []api.Bind{{Name: "x", Sort: sort}}, L: []api.Form{yes}})
	}
	r := rand.New(rand.NewPCG(1, 1))
	for range 200 {
		l = append(l, random(r, 5))
	}
	for _, f := range l {
		if e := formula.Check(f); e != api.OK {
			t.Errorf("%s: %d", show(f), e)
		}
	}
}

func TestCheckOfLargeFormulas(t *testing.T) {
	for i, x := range []struct {
		f api.Form
		e api.Errno
	}{
		{chain(24, yes), api.ErrBound}, {form(api.NotF, bush(128)), api.OK}, {chain(2, bush(128)), api.ErrBound}, {bush(129), api.ErrBound},
		{chain(60000, yes), api.ErrBound}, {chain(60000, api.Form{}), api.ErrArg}, {form(api.AndF, bush(300), api.Form{Kind: -1}), api.ErrArg},
		{form(api.AndF, bush(20), chain(22, yes)), api.OK}, {form(api.AndF, bush(20), chain(23, yes)), api.ErrBound}, {form(api.AndF, chain(23, yes), bush(20)), api.ErrBound},
	} {
		if e := formula.Check(x.f); e != x.e {
			t.Errorf("%d: %d, want %d", i, e, x.e)
		}
		if g, e := formula.Nnf(x.f); e != x.e || e != api.OK && show(g) != show(api.Form{}) {
			t.Errorf("%d: Nnf reports %d, want %d", i, e, x.e)
		}
	}
}

// spoilt yields formulas that are not well-formed for one reason each.
func spoilt() []api.Form {
	var l []api.Form
	with := func(f api.Form, change func(f *api.Form)) {
		f.Terms, f.Binds, f.L = slices.Clone(f.Terms), slices.Clone(f.Binds), slices.Clone(f.L)
		change(&f)
		l = append(l, f)
	}
	all := quant(api.AllF, 0, p, "l")
	each := []api.Form{yes, no, c, form(api.NotF, p), form(api.AndF, p, q), form(api.OrF, p, q), form(api.ImpF, p, q), all, quant(api.SomeF, 0, p, "a"), quant(api.LeastF, 2, p, "a"), quant(api.MostF, 2, p, "a")}
	for kind := api.AtF; kind <= api.ShutF; kind++ {
		each = append(each, atom(kind, "a", "b"))
		with(atom(kind, "a", "b"), func(f *api.Form) { f.Terms[0] = num(1) })
		with(atom(kind, "a", "b"), func(f *api.Form) { f.Terms[1].Kind = api.DayT })
		with(atom(kind, "a", "b"), func(f *api.Form) { f.Terms[0].Name = "at" })
	}
	for _, f := range each {
		with(f, func(f *api.Form) { f.Terms = append(f.Terms, v("x")) })
		with(f, func(f *api.Form) { f.L = append(f.L, yes) })
		if f.Kind != api.CmpF {
			with(f, func(f *api.Form) { f.Name = "=" })
		}
		if f.Kind < api.LeastF {
			with(f, func(f *api.Form) { f.N = 1 })
		}
		if len(f.Binds) == 0 {
			with(f, func(f *api.Form) { f.Binds = all.Binds })
		} else {
			with(f, func(f *api.Form) { f.Binds = nil })
			with(f, func(f *api.Form) { f.Binds[0].Name = "" })
			with(f, func(f *api.Form) { f.Binds[0].Name = "slot" })
			with(f, func(f *api.Form) { f.Binds[0].Name = strings.Repeat("x", 65) })
			with(f, func(f *api.Form) { f.Binds[0].Sort = 0 })
			with(f, func(f *api.Form) { f.Binds[0].Sort = api.NumS })
			with(f, func(f *api.Form) { f.Binds[0].Sort = -1 })
			with(f, func(f *api.Form) { f.Binds = quant(api.AllF, 0, p, "a", "b", "c", "d", "e", "f", "g").Binds })
			with(f, func(f *api.Form) { f.N = -1 })
			with(f, func(f *api.Form) { f.N = api.MaxNum + 1 })
		}
		if len(f.Terms) > 0 {
			with(f, func(f *api.Form) { f.Terms = f.Terms[:1] })
			with(f, func(f *api.Form) { f.Terms = nil })
		}
		if len(f.L) > 0 {
			with(f, func(f *api.Form) { f.L = f.L[1:] })
			with(f, func(f *api.Form) { f.L[0] = api.Form{} })
			with(f, func(f *api.Form) { f.L[len(f.L)-1] = form(api.NotF) })
		}
	}
	for _, kind := range []int{0, -1, 18, 1<<63 - 1, -1 << 63} {
		with(yes, func(f *api.Form) { f.Kind = kind })
		with(c, func(f *api.Form) { f.Terms[0] = api.Term{Kind: kind, Name: "x"} })
	}
	for _, op := range []string{"", "==", "<>", "a", "=<"} {
		with(c, func(f *api.Form) { f.Name = op })
	}
	for _, x := range []api.Term{
		{Kind: api.NumT, N: -1}, {Kind: api.NumT, N: api.MaxNum + 1}, {Kind: api.NumT, N: 1, Name: "x"}, {Kind: 8, Name: "x"}, {Kind: 0, Name: "x"},
		{Kind: api.VarT}, {Kind: api.VarT, Name: "X"}, {Kind: api.VarT, Name: "x", N: 1}, {Kind: api.SizeT, Name: "x", N: -1}, {Kind: api.DayT, Name: "day"},
	} {
		with(c, func(f *api.Form) { f.Terms[1] = x })
	}
	return l
}

func TestCheckOfSpoiltFormulas(t *testing.T) {
	for _, f := range spoilt() {
		if e := formula.Check(f); e != api.ErrArg {
			t.Errorf("%s: %d", show(f), e)
		}
		if e := formula.Check(form(api.AndF, yes, chain(3, f))); e != api.ErrArg {
			t.Errorf("%s, deep inside: %d", show(f), e)
		}
		if g, e := formula.Nnf(f); e != api.ErrArg || show(g) != show(api.Form{}) {
			t.Errorf("Nnf of %s: %d", show(f), e)
		}
	}
}

func TestFree(t *testing.T) {
	odd := api.Form{Terms: []api.Term{{Kind: 50, Name: "z"}, {Kind: api.NumT, Name: "n"}, {}, v("z"), v("y")}, Binds: []api.Bind{{Name: "y"}}, L: []api.Form{atom(api.AtF, "y", "x")}}
	for i, x := range []struct {
		f    api.Form
		want []string
	}{
		{yes, nil}, {p, []string{"l", "s"}}, {atom(api.AtF, "s", "s"), []string{"s"}}, {c, []string{"a"}}, {cmp(num(1), "=", num(2)), nil},
		{form(api.AndF, q, p), []string{"l", "r", "s"}}, {quant(api.AllF, 0, p, "s"), []string{"l"}}, {quant(api.AllF, 0, p, "l", "s"), nil},
		{quant(api.SomeF, 0, p, "x"), []string{"l", "s"}}, {odd, []string{"z", "", "x"}}, {api.Form{}, nil},
		{form(api.AndF, quant(api.AllF, 0, p, "l"), p), []string{"s", "l"}},
		{form(api.AndF, p, quant(api.AllF, 0, p, "l")), []string{"l", "s"}},
		{quant(api.AllF, 0, form(api.AndF, quant(api.SomeF, 0, p, "l"), p), "l"), []string{"s"}},
		{quant(api.AllF, 0, form(api.AndF, quant(api.SomeF, 0, p, "l", "l"), atom(api.AtF, "l", "k")), "s", "s"), []string{"l", "k"}},
		{form(api.NotF, form(api.ImpF, q, quant(api.LeastF, 2, p, "s"))), []string{"l", "r"}},
	} {
		if l := formula.Free(x.f); !slices.Equal(l, x.want) {
			t.Errorf("%d: %q, want %q", i, l, x.want)
		}
	}
}

// freeByWords computes free variables literally as the promise words it.
func freeByWords(f api.Form) []string {
	var l []string
	for _, t := range f.Terms {
		if t.Kind != api.NumT {
			l = append(l, t.Name)
		}
	}
	for _, g := range f.L {
		l = append(l, freeByWords(g)...)
	}
	var out []string
	for _, n := range l {
		if !slices.Contains(out, n) && !slices.ContainsFunc(f.Binds, func(b api.Bind) bool { return b.Name == n }) {
			out = append(out, n)
		}
	}
	return out
}

func TestFreeOfRandomFormulas(t *testing.T) {
	r := rand.New(rand.NewPCG(2, 2))
	for range 3000 {
		f := random(r, 6)
		if l := formula.Free(f); !slices.Equal(l, freeByWords(f)) {
			t.Fatalf("%s: %q, want %q", show(f), l, freeByWords(f))
		}
	}
}

func TestSame(t *testing.T) {
	l := append(spoilt(), yes, no, p, q, c, form(api.AndF, p, q), form(api.AndF, q, p), quant(api.LeastF, 1, p, "a"), quant(api.LeastF, 1, p, "a", "b"))
	for i, f := range l {
		for k, g := range l {
			if want := show(f) == show(g); formula.Same(f, g) != want {
				t.Fatalf("Same of %d and %d is not %v: %s and %s", i, k, want, show(f), show(g))
			}
		}
	}
	empty := api.Form{Kind: api.TrueF, Terms: []api.Term{}, Binds: []api.Bind{}, L: []api.Form{}}
	if !formula.Same(yes, empty) || !formula.Same(empty, yes) {
		t.Error("an empty list is a nil one")
	}
	deep := chain(10, form(api.AndF, p, q))
	if !formula.Same(deep, chain(10, form(api.AndF, p, q))) || formula.Same(deep, chain(10, form(api.AndF, p, p))) {
		t.Error("deep inside")
	}
}

func TestArgumentsAreLeftAlone(t *testing.T) {
	r := rand.New(rand.NewPCG(3, 3))
	for range 300 {
		f := random(r, 5)
		old := show(f)
		formula.Free(f)
		formula.Check(f)
		g, e := formula.Nnf(f)
		want := show(g)
		if show(f) != old || e != api.OK {
			t.Fatal("an argument was changed", old)
		}
		// A result has memory of its own, and equal calls give equal results.
		scribble(f)
		if show(g) != want {
			t.Fatal("a result shares memory with an argument", old)
		}
	}
	f := form(api.AndF, quant(api.AllF, 0, p, "l"), c)
	a, _ := formula.Nnf(f)
	b, _ := formula.Nnf(f)
	if !reflect.DeepEqual(a, b) {
		t.Error("equal calls differ")
	}
}

// scribble overwrites all memory of a formula.
func scribble(f api.Form) {
	for i := range f.L {
		scribble(f.L[i])
		f.L[i] = api.Form{}
	}
	for i := range f.Terms {
		f.Terms[i] = api.Term{}
	}
	for i := range f.Binds {
		f.Binds[i] = api.Bind{}
	}
}
