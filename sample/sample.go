// Package sample makes schools, weeks, formulas and rules for the tests of the other packages. What it makes depends on its arguments only.
package sample

import (
	"strconv"

	"chalkline/api"
	"chalkline/syntax"
)

// Source is a sequence of numbers that look random and are the same for the same seed.
type Source struct {
	state uint64
}

// New returns the source of a seed.
func New(seed int) *Source {
	return &Source{state: uint64(seed)}
}

// Below returns the next number, from 0 to n - 1.
func (r *Source) Below(n int) int {
	// The generator of Steele, Lea and Flood: splitmix64.
	r.state += 0x9e3779b97f4a7c15
	z := r.state
	z = (z ^ z>>30) * 0xbf58476d1ce4e5b9
	z = (z ^ z>>27) * 0x94d049bb133111eb
	return int((z ^ z>>31) % uint64(n))
}

// Chance reports true once in n times.
func (r *Source) Chance(n int) bool {
	return r.Below(n) == 0
}

// Some returns an increasing list of about half the numbers below n.
func (r *Source) Some(n int) []int {
	var l []int
	for i := range n {
		if r.Chance(2) {
			l = append(l, i)
		}
	}
	return l
}

// Plain returns a school with the given numbers of elements, and no relations between them.
func Plain(lessons, slots, rooms, people, groups int) api.School {
	var s api.School
	for i := range lessons {
		s.Lessons = append(s.Lessons, api.Lesson{Name: "l" + strconv.Itoa(i)})
	}
	for i := range slots {
		s.Slots = append(s.Slots, api.Slot{Name: "s" + strconv.Itoa(i), Day: i % api.MaxDays, Hour: i / api.MaxDays})
	}
	for i := range rooms {
		s.Rooms = append(s.Rooms, api.Room{Name: "r" + strconv.Itoa(i)})
	}
	for i := range people {
		s.People = append(s.People, api.Person{Name: "p" + strconv.Itoa(i)})
	}
	for i := range groups {
		s.Groups = append(s.Groups, api.Group{Name: "g" + strconv.Itoa(i)})
	}
	return s
}

// School returns a school with the given numbers of lessons, slots and rooms, a few people and groups, and some relations.
func (r *Source) School(lessons, slots, rooms int) api.School {
	s := Plain(lessons, slots, rooms, r.Below(3), r.Below(3))
	taken := map[int]bool{}
	for i := range s.Slots {
		h := r.Below(api.MaxDays * api.MaxHours)
		for taken[h] {
			h = r.Below(api.MaxDays * api.MaxHours)
		}
		taken[h] = true
		s.Slots[i].Day, s.Slots[i].Hour = h/api.MaxHours, h%api.MaxHours
	}
	for i := range s.Rooms {
		s.Rooms[i].House, s.Rooms[i].Seats, s.Rooms[i].Shut = r.Below(api.MaxHouses), r.Below(30), r.Some(slots)
	}
	for i := range s.People {
		s.People[i].Away = r.Some(slots)
	}
	for i := range s.Groups {
		s.Groups[i].Size = r.Below(20)
	}
	for i := range s.Lessons {
		s.Lessons[i].Who, s.Lessons[i].Groups = r.Some(len(s.People)), r.Some(len(s.Groups))
	}
	return s
}

// Week returns a week of a school.
func (r *Source) Week(s api.School) api.Week {
	w := Zero(s)
	for i := range w.L {
		w.L[i] = api.Place{Slot: r.Below(len(s.Slots)), Room: r.Below(len(s.Rooms))}
	}
	return w
}

// Zero returns the week of a school in which every slot and room is 0.
func Zero(s api.School) api.Week {
	return api.Week{L: make([]api.Place, len(s.Lessons))}
}

// Week returns the week with the given slots and rooms, in turn.
func Week(l ...int) api.Week {
	var w api.Week
	for i := 0; i < len(l); i += 2 {
		w.L = append(w.L, api.Place{Slot: l[i], Room: l[i+1]})
	}
	return w
}

// Form parses a formula, which must be one.
func Form(src string) api.Form {
	f, at, e := syntax.Form([]byte(src))
	if e != api.OK {
		panic("not a formula at " + strconv.Itoa(at) + ": " + src)
	}
	return f
}

// Rules parses rules, which must be rules.
func Rules(src string) []api.Rule {
	l, at, e := syntax.Parse([]byte(src))
	if e != api.OK {
		panic("not rules at " + strconv.Itoa(at) + ": " + src)
	}
	return l
}
