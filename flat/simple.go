package flat

import (
	"slices"

	"chalkline/api"
)

// neutral holds the constants that change nothing among the operands of AndG and OrG. The other constant decides.
var neutral = [...]int{api.AndG: 1, api.OrG: 0}

// Simple returns an equivalent simplified tree.
func Simple(t api.Tree) api.Tree {
	if Check(t, api.MaxVars) != api.OK {
		return api.Tree{}
	}
	return simple(t)
}

// simple returns the simplification of a well-formed tree.
func simple(t api.Tree) api.Tree {
	switch t.Kind {
	case api.NotG:
		return not(simple(t.L[0]))
	case api.AndG, api.OrG:
		return junction(t.Kind, operands(t, nil))
	case api.LeastG:
		var l []api.Tree
		for _, x := range t.L {
			l = append(l, simple(x))
		}
		return least(t.K, l)
	}
	return api.Tree{Kind: t.Kind, V: t.V}
}

// operands appends the simplified operands of an AndG or OrG to l, and those of operands of its kind in their place.
func operands(t api.Tree, l []api.Tree) []api.Tree {
	for _, x := range t.L {
		for x.Kind == api.NotG && x.L[0].Kind == api.NotG {
			x = x.L[0].L[0]
		}
		if x.Kind == t.Kind {
			// Simplifying x first would give the same operands, but copy them at every depth.
			l = operands(x, l)
		} else {
			l = splice(t.Kind, l, simple(x))
		}
	}
	return l
}

// splice appends x to l, or its operands if it is of the given kind.
func splice(kind int, l []api.Tree, x api.Tree) []api.Tree {
	if x.Kind == kind {
		return append(l, x.L...)
	}
	return append(l, x)
}

// not returns the simplification of the negation of a simplified tree.
func not(t api.Tree) api.Tree {
	switch t.Kind {
	case api.ConstG:
		return constant(1 - t.V)
	case api.NotG:
		return t.L[0]
	}
	return api.Tree{Kind: api.NotG, L: []api.Tree{t}}
}

// junction returns the simplification of an AndG or OrG of simplified trees, none of which has its kind.
func junction(kind int, l []api.Tree) api.Tree {
	decisive := func(x api.Tree) bool { return x.Kind == api.ConstG && x.V != neutral[kind] }
	if slices.ContainsFunc(l, decisive) {
		return constant(1 - neutral[kind])
	}
	l = filter(l, func(x api.Tree) bool { return x.Kind != api.ConstG })
	switch len(l) {
	case 0:
		return constant(neutral[kind])
	case 1:
		return l[0]
	}
	return api.Tree{Kind: kind, L: l}
}

// least returns the simplification of a LeastG of simplified trees.
func least(k int, l []api.Tree) api.Tree {
	k -= len(filter(l, func(x api.Tree) bool { return x.Kind == api.ConstG && x.V == 1 }))
	l = filter(l, func(x api.Tree) bool { return x.Kind != api.ConstG })
	n := len(l)
	switch {
	case k <= 0:
		return constant(1)
	case k > n:
		return constant(0)
	case k == n:
		return junction(api.AndG, spliceAll(api.AndG, l))
	case k == 1:
		return junction(api.OrG, spliceAll(api.OrG, l))
	}
	return api.Tree{Kind: api.LeastG, K: k, L: l}
}

// spliceAll returns l with the operands of the trees of the given kind in their place.
func spliceAll(kind int, l []api.Tree) []api.Tree {
	var out []api.Tree
	for _, x := range l {
		out = splice(kind, out, x)
	}
	return out
}

// constant returns a constant.
func constant(v int) api.Tree {
	return api.Tree{Kind: api.ConstG, V: v}
}

// filter returns the elements of l that are to be kept.
func filter[T any](l []T, keep func(T) bool) []T {
	out := make([]T, 0, len(l))
	for _, x := range l {
		if keep(x) {
			out = append(out, x)
		}
	}
	return out
}
