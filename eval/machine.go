package eval

import (
	"iter"
	"slices"

	"chalkline/api"
	"chalkline/school"
)

// tuples yields all tuples with elements below the counts, in lexicographic order, each in the memory of t.
func tuples(counts, t []int) iter.Seq[[]int] {
	return func(yield func([]int) bool) {
		if slices.Contains(counts, 0) {
			return
		}
		clear(t[:len(counts)])
		for yield(t[:len(counts)]) && next(counts, t) {
		}
	}
}

// next turns t into the tuple after it, and reports whether there is one.
func next(counts, t []int) bool {
	for i := len(counts) - 1; i >= 0; i-- {
		if t[i]++; t[i] < counts[i] {
			return true
		}
		t[i] = 0
	}
	return false
}

// machine evaluates well-typed formulas in a week.
type machine struct {
	s     api.School
	vals  []int // the elements to which the variables in scope are bound
	atoms map[int]func(a, b int) bool
}

// newMachine returns a machine that knows the meanings of the atoms in a week.
func newMachine(s api.School, w api.Week) *machine {
	return &machine{s: s, atoms: map[int]func(a, b int) bool{
		api.AtF:      func(lesson, slot int) bool { return w.L[lesson].Slot == slot },
		api.InF:      func(lesson, room int) bool { return w.L[lesson].Room == room },
		api.TeachesF: func(person, lesson int) bool { return school.Teaches(s, person, lesson) },
		api.AttendsF: func(group, lesson int) bool { return school.Attends(s, group, lesson) },
		api.AwayF:    func(person, slot int) bool { return school.Away(s, person, slot) },
		api.ShutF:    func(room, slot int) bool { return school.Shut(s, room, slot) },
	}}
}

// compile returns a function that tells whether f holds if the variables of scope are bound to the elements of a tuple.
func (m *machine) compile(f api.Form, scope []api.Bind) func(t []int) bool {
	holds := m.form(f, scope)
	return func(t []int) bool {
		// Everything that a formula may bind at once fits behind the tuple.
		m.vals = append(slices.Clone(t), make([]int, api.MaxBinds*api.MaxDepth)...)
		return holds()
	}
}

// form returns a function that tells whether f holds under the current values of the variables of scope.
func (m *machine) form(f api.Form, scope []api.Bind) func() bool {
	switch f.Kind {
	case api.TrueF, api.FalseF:
		return func() bool { return f.Kind == api.TrueF }
	case api.CmpF:
		return m.comparison(f, scope)
	case api.AllF, api.SomeF, api.LeastF, api.MostF:
		return m.quantifier(f, scope)
	}
	if holds, ok := m.atoms[f.Kind]; ok {
		a, b := position(f.Terms[0], scope), position(f.Terms[1], scope)
		return func() bool { return holds(m.vals[a], m.vals[b]) }
	}
	var l []func() bool
	for _, g := range f.L {
		l = append(l, m.form(g, scope))
	}
	switch f.Kind {
	case api.NotF:
		return func() bool { return !l[0]() }
	case api.AndF:
		return func() bool { return l[0]() && l[1]() }
	case api.OrF:
		return func() bool { return l[0]() || l[1]() }
	}
	return func() bool { return !l[0]() || l[1]() }
}

// comparison returns the meaning of a comparison.
func (m *machine) comparison(f api.Form, scope []api.Bind) func() bool {
	a, b := m.term(f.Terms[0], scope), m.term(f.Terms[1], scope)
	return map[string]func() bool{
		"=":  func() bool { return a() == b() },
		"!=": func() bool { return a() != b() },
		"<":  func() bool { return a() < b() },
		"<=": func() bool { return a() <= b() },
		">":  func() bool { return a() > b() },
		">=": func() bool { return a() >= b() },
	}[f.Name]
}

// quantifier returns the meaning of a quantifier: each kind asks whether the subformula has a value for enough tuples.
func (m *machine) quantifier(f api.Form, scope []api.Bind) func() bool {
	base, counts := len(scope), counts(m.s, f.Binds)
	holds := m.form(f.L[0], append(slices.Clip(scope), f.Binds...))
	least := func(n int, value bool) bool {
		for range tuples(counts, m.vals[base:]) {
			if n > 0 && holds() == value {
				n--
			}
			if n == 0 {
				break
			}
		}
		return n == 0
	}
	switch f.Kind {
	case api.AllF:
		return func() bool { return !least(1, false) }
	case api.SomeF:
		return func() bool { return least(1, true) }
	case api.LeastF:
		return func() bool { return least(f.N, true) }
	}
	return func() bool { return !least(f.N+1, true) }
}

// term returns the value of a term as a function of the current values of the variables.
func (m *machine) term(t api.Term, scope []api.Bind) func() int {
	if t.Kind == api.NumT {
		return func() int { return t.N }
	}
	at := position(t, scope)
	switch t.Kind {
	case api.VarT:
		if scope[at].Sort == api.SlotS {
			return func() int { return hourOfWeek(m.s.Slots[m.vals[at]]) }
		}
		return func() int { return m.vals[at] }
	case api.DayT:
		return func() int { return m.s.Slots[m.vals[at]].Day }
	case api.HourT:
		return func() int { return m.s.Slots[m.vals[at]].Hour }
	case api.HouseT:
		return func() int { return m.s.Rooms[m.vals[at]].House }
	case api.SeatsT:
		return func() int { return m.s.Rooms[m.vals[at]].Seats }
	}
	return func() int { return school.Size(m.s, m.vals[at]) }
}

// hourOfWeek numbers slots in the order of time.
func hourOfWeek(x api.Slot) int {
	return api.MaxHours*x.Day + x.Hour
}

// position returns the index in scope of the variable of a term.
func position(t api.Term, scope []api.Bind) int {
	return slices.IndexFunc(scope, func(b api.Bind) bool { return b.Name == t.Name })
}
