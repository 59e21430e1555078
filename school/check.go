package school

import (
	"chalkline/api"
	"chalkline/name"
)

// Check validates a school.
func Check(s api.School) api.Errno {
	switch {
	case !valid(s):
		return api.ErrArg
	case len(s.Slots) > api.MaxSlots || len(s.Rooms) > api.MaxRooms || len(s.People) > api.MaxPeople ||
		len(s.Groups) > api.MaxGroups || len(s.Lessons) > api.MaxLessons:
		return api.ErrBound
	}
	return api.OK
}

// valid reports whether s is a valid school, of whatever size.
func valid(s api.School) bool {
	return len(s.Slots) > 0 && len(s.Rooms) > 0 && named(s) && slotsValid(s) &&
		all(s.Rooms, func(r api.Room) bool {
			return within(r.House, api.MaxHouses-1) && within(r.Seats, api.MaxSize) && indices(r.Shut, len(s.Slots))
		}) &&
		all(s.People, func(p api.Person) bool { return indices(p.Away, len(s.Slots)) }) &&
		all(s.Groups, func(g api.Group) bool { return within(g.Size, api.MaxSize) }) &&
		all(s.Lessons, func(l api.Lesson) bool {
			return indices(l.Who, len(s.People)) && indices(l.Groups, len(s.Groups))
		})
}

// named reports whether the elements of each list have names, and different ones.
func named(s api.School) bool {
	for _, sort := range [...]int{api.LessonS, api.SlotS, api.RoomS, api.PersonS, api.GroupS} {
		seen := map[string]bool{}
		for _, n := range elements(s, sort) {
			if !name.Is(n) || seen[n] {
				return false
			}
			seen[n] = true
		}
	}
	return true
}

// slotsValid reports whether the slots are different hours of the days of a week.
func slotsValid(s api.School) bool {
	type hour struct{ day, hour int }
	seen := map[hour]bool{}
	return all(s.Slots, func(x api.Slot) bool {
		h := hour{x.Day, x.Hour}
		if seen[h] || !within(x.Day, api.MaxDays-1) || !within(x.Hour, api.MaxHours-1) {
			return false
		}
		seen[h] = true
		return true
	})
}

// indices reports whether l is a strictly increasing list of indices below n.
func indices(l []int, n int) bool {
	last := -1
	return all(l, func(x int) bool {
		ok := x > last && x < n
		last = x
		return ok
	})
}

// all reports whether ok holds for every element of l.
func all[T any](l []T, ok func(T) bool) bool {
	for _, x := range l {
		if !ok(x) {
			return false
		}
	}
	return true
}

// within reports whether n is from 0 to most.
func within(n, most int) bool {
	return n >= 0 && n <= most
}
