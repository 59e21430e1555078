package ground

import (
	"iter"
	"slices"

	"chalkline/api"
	"chalkline/eval"
	"chalkline/formula"
	"chalkline/school"
	"chalkline/week"
)

// builder builds ground formulas of a valid school. It panics with tooLarge when there are too many nodes or instances.
type builder struct {
	api.School
	nodes  int
	broken map[atom]map[[2]int]bool
}

// atom is an atom that means the same in all weeks, with the sorts of the variables of its terms (0 for a number).
type atom struct {
	kind  int
	op    string
	terms [2]api.Term
	sorts [2]int
}

// newBuilder returns a builder that has built nothing yet.
func newBuilder(s api.School) *builder {
	return &builder{School: s, broken: map[atom]map[[2]int]bool{}}
}

// firstWeek returns the week in which every lesson has slot 0 and room 0.
func (b *builder) firstWeek() api.Week {
	return api.Week{L: make([]api.Place, len(b.Lessons))}
}

// insts returns the instances of well-typed rules.
func (b *builder) insts(l []api.Rule) []api.Inst {
	var out []api.Inst
	for i, r := range l {
		for t := range b.tuples(r.Each) {
			if len(out) == api.MaxInsts {
				panic(tooLarge{})
			}
			out = append(out, api.Inst{Rule: i, Binds: t, T: b.tree(r.Body, extend(nil, r.Each, t))})
		}
	}
	return out
}

// tree returns the ground formula of a well-typed formula.
func (b *builder) tree(f api.Form, env []api.Env) api.Tree {
	if b.nodes++; b.nodes > api.MaxTree {
		panic(tooLarge{})
	}
	switch f.Kind {
	case api.AtF:
		return api.Tree{Kind: api.VarG, V: week.At(b.School, value(f.Terms[0], env).At, value(f.Terms[1], env).At)}
	case api.InF:
		return api.Tree{Kind: api.VarG, V: week.In(b.School, value(f.Terms[0], env).At, value(f.Terms[1], env).At)}
	case api.NotF:
		return not(b.tree(f.L[0], env))
	case api.AndF:
		return and(b.tree(f.L[0], env), b.tree(f.L[1], env))
	case api.OrF:
		return or(b.tree(f.L[0], env), b.tree(f.L[1], env))
	case api.ImpF:
		left := api.Form{Kind: api.NotF, L: f.L[:1]}
		return or(b.tree(left, env), b.tree(f.L[1], env))
	case api.AllF:
		return and(b.operands(f, env)...)
	case api.SomeF:
		return or(b.operands(f, env)...)
	case api.LeastF:
		return api.Tree{Kind: api.LeastG, K: f.N, L: b.operands(f, env)}
	case api.MostF:
		more := f
		more.Kind, more.N = api.LeastF, min(f.N+1, api.MaxNum)
		return not(b.tree(more, env))
	}
	if b.holds(f, env) {
		return api.Tree{Kind: api.ConstG, V: 1}
	}
	return api.Tree{Kind: api.ConstG}
}

// operands returns the ground formulas of the subformula of a quantifier, one for each tuple.
func (b *builder) operands(f api.Form, env []api.Env) []api.Tree {
	var l []api.Tree
	for t := range b.tuples(f.Binds) {
		l = append(l, b.tree(f.L[0], extend(env, f.Binds, t)))
	}
	return l
}

// holds reports whether a constant or an atom holds that means the same in all weeks.
func (b *builder) holds(f api.Form, env []api.Env) bool {
	key := atom{kind: f.Kind, op: f.Name}
	for i, t := range f.Terms {
		key.terms[i], key.sorts[i] = t, value(t, env).Sort
	}
	var at [2]int
	var each []api.Bind
	for i, n := range formula.Free(f) {
		x := value(api.Term{Name: n}, env)
		at[i], each = x.At, append(each, api.Bind{Name: n, Sort: x.Sort})
	}
	broken, ok := b.broken[key]
	if !ok {
		broken = b.violations(f, each)
		b.broken[key] = broken
	}
	return !broken[at]
}

// violations returns the values of its variables for which an atom does not hold. They are found at once, since a call of eval is dear.
func (b *builder) violations(f api.Form, each []api.Bind) map[[2]int]bool {
	rule := api.Rule{Name: "x", Hard: true, Each: each, Body: f}
	// No atom has more tuples than eval admits.
	l, _ := eval.Broken(b.School, b.firstWeek(), []api.Rule{rule})
	m := map[[2]int]bool{}
	for _, i := range l {
		var at [2]int
		copy(at[:], i.Binds)
		m[at] = true
	}
	return m
}

// tuples yields the tuples of binds in lexicographic order, each in memory of its own.
func (b *builder) tuples(binds []api.Bind) iter.Seq[[]int] {
	return func(yield func([]int) bool) {
		for _, x := range binds {
			if school.Count(b.School, x.Sort) == 0 {
				return
			}
		}
		for t := make([]int, len(binds)); t != nil && yield(slices.Clone(t)); {
			t = b.next(binds, t)
		}
	}
}

// next turns t into the tuple after it, or returns nil if there is none.
func (b *builder) next(binds []api.Bind, t []int) []int {
	for i, x := range slices.Backward(binds) {
		if t[i]++; t[i] < school.Count(b.School, x.Sort) {
			return t
		}
		t[i] = 0
	}
	return nil
}

// extend returns env with the binds bound to the elements of a tuple.
func extend(env []api.Env, binds []api.Bind, t []int) []api.Env {
	env = slices.Clip(env)
	for i, x := range binds {
		env = append(env, api.Env{Name: x.Name, Sort: x.Sort, At: t[i]})
	}
	return env
}

// value returns the entry of env for the variable of a term, or nothing for a number.
func value(t api.Term, env []api.Env) api.Env {
	for _, x := range env {
		if x.Name == t.Name {
			return x
		}
	}
	return api.Env{}
}

// not returns a negation.
func not(t api.Tree) api.Tree {
	return api.Tree{Kind: api.NotG, L: []api.Tree{t}}
}

// and returns a conjunction.
func and(l ...api.Tree) api.Tree {
	return api.Tree{Kind: api.AndG, L: l}
}

// or returns a disjunction.
func or(l ...api.Tree) api.Tree {
	return api.Tree{Kind: api.OrG, L: l}
}
