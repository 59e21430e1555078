package school_test

import (
	"fmt"
	"math/rand/v2"
	"reflect"
	"slices"
	"strings"
	"testing"

	"chalkline/api"
	"chalkline/school"
)

// sample is a valid school with something of everything.
func sample() api.School {
	return api.School{
		Slots: []api.Slot{{Name: "mon1", Day: 0, Hour: 0}, {Name: "tue1", Day: 1, Hour: 0}, {Name: "sun12", Day: 6, Hour: 11}},
		Rooms: []api.Room{{Name: "r0", House: 0, Seats: 0, Shut: []int{0, 2}}, {Name: "r7", House: 7, Seats: 1000}},
		People: []api.Person{
			{Name: "ann", Away: []int{1}}, {Name: "bob", Away: []int{0, 1, 2}}, {Name: "cy"},
		},
		Groups:  []api.Group{{Name: "g12", Size: 12}, {Name: "g9", Size: 9}, {Name: "none", Size: 0}, {Name: "full", Size: 1000}},
		Lessons: []api.Lesson{{Name: "math", Who: []int{0}, Groups: []int{0, 1}}, {Name: "art", Who: []int{0, 2}, Groups: []int{3}}, {Name: "free"}},
	}
}

// big is a valid school with every list at its limit.
func big() api.School {
	var s api.School
	var all []int
	for i := range 50 {
		s.Slots = append(s.Slots, api.Slot{Name: fmt.Sprint("s", i), Day: i / 12, Hour: i % 12})
		all = append(all, i)
	}
	for i := range 32 {
		s.Rooms = append(s.Rooms, api.Room{Name: fmt.Sprint("r", i), House: i % 8, Seats: 31 * i, Shut: all})
	}
	for i := range 14 {
		all = append(all, 50+i)
	}
	for i := range 64 {
		s.People = append(s.People, api.Person{Name: fmt.Sprint("p", i), Away: all[:50]})
		s.Groups = append(s.Groups, api.Group{Name: fmt.Sprint("g", i), Size: 15 * i})
		s.Lessons = append(s.Lessons, api.Lesson{Name: fmt.Sprint("l", i) + strings.Repeat("_", 64), Who: all, Groups: all})
	}
	for i := range s.Lessons {
		s.Lessons[i].Name = s.Lessons[i].Name[:64]
	}
	return s
}

// copyOf copies a school and all its lists.
func copyOf(s api.School) api.School {
	s.Slots, s.Rooms, s.People = slices.Clone(s.Slots), slices.Clone(s.Rooms), slices.Clone(s.People)
	s.Groups, s.Lessons = slices.Clone(s.Groups), slices.Clone(s.Lessons)
	for i := range s.Rooms {
		s.Rooms[i].Shut = slices.Clone(s.Rooms[i].Shut)
	}
	for i := range s.People {
		s.People[i].Away = slices.Clone(s.People[i].Away)
	}
	for i := range s.Lessons {
		s.Lessons[i].Who = slices.Clone(s.Lessons[i].Who)
		s.Lessons[i].Groups = slices.Clone(s.Lessons[i].Groups)
	}
	return s
}

// same holds two schools against each other; a nil list is an empty one.
func same(a, b api.School) bool { return fmt.Sprint(a) == fmt.Sprint(b) }

func TestCheckOfValidSchools(t *testing.T) {
	least := api.School{Slots: []api.Slot{{Name: "a"}}, Rooms: []api.Room{{Name: "a"}}}
	for i, s := range []api.School{sample(), big(), least} {
		if e := school.Check(s); e != api.OK {
			t.Errorf("%d: %d", i, e)
		}
	}
}

// wrong are the ways in which a school fails to be valid.
var wrong = map[string]func(s *api.School){
	"no slot":            func(s *api.School) { *s = api.School{Rooms: s.Rooms[1:]} },
	"no room":            func(s *api.School) { s.Rooms = nil },
	"empty name":         func(s *api.School) { s.Slots[1].Name = "" },
	"reserved name":      func(s *api.School) { s.Rooms[1].Name = "room" },
	"capital":            func(s *api.School) { s.People[2].Name = "Cy" },
	"digit first":        func(s *api.School) { s.Groups[0].Name = "12g" },
	"65 bytes":           func(s *api.School) { s.Lessons[0].Name = strings.Repeat("m", 65) },
	"bad lesson name":    func(s *api.School) { s.Lessons[2].Name = "a b" },
	"bad group name":     func(s *api.School) { s.Groups[3].Name = "é" },
	"twice a slot name":  func(s *api.School) { s.Slots[2].Name = "mon1" },
	"twice a room name":  func(s *api.School) { s.Rooms[1].Name = "r0" },
	"twice a person":     func(s *api.School) { s.People[2].Name = "ann" },
	"twice a group":      func(s *api.School) { s.Groups[1].Name = "full" },
	"twice a lesson":     func(s *api.School) { s.Lessons[1].Name = "math" },
	"day -1":             func(s *api.School) { s.Slots[0].Day = -1 },
	"day 7":              func(s *api.School) { s.Slots[0].Day = 7 },
	"hour -1":            func(s *api.School) { s.Slots[0].Hour = -1 },
	"hour 12":            func(s *api.School) { s.Slots[0].Hour = 12 },
	"one hour twice":     func(s *api.School) { s.Slots[2].Day, s.Slots[2].Hour = 1, 0 },
	"house -1":           func(s *api.School) { s.Rooms[0].House = -1 },
	"house 8":            func(s *api.School) { s.Rooms[0].House = 8 },
	"seats -1":           func(s *api.School) { s.Rooms[1].Seats = -1 },
	"seats 1001":         func(s *api.School) { s.Rooms[1].Seats = 1001 },
	"size -1":            func(s *api.School) { s.Groups[1].Size = -1 },
	"size 1001":          func(s *api.School) { s.Groups[3].Size = 1001 },
	"shut -1":            func(s *api.School) { s.Rooms[0].Shut = []int{-1, 0} },
	"shut at no slot":    func(s *api.School) { s.Rooms[0].Shut = []int{0, 3} },
	"shut twice":         func(s *api.School) { s.Rooms[0].Shut = []int{1, 1} },
	"shut falling":       func(s *api.School) { s.Rooms[1].Shut = []int{2, 0} },
	"away -1":            func(s *api.School) { s.People[2].Away = []int{-1} },
	"away at no slot":    func(s *api.School) { s.People[2].Away = []int{3} },
	"away twice":         func(s *api.School) { s.People[2].Away = []int{0, 2, 2} },
	"away falling":       func(s *api.School) { s.People[0].Away = []int{1, 0} },
	"who -1":             func(s *api.School) { s.Lessons[2].Who = []int{-1} },
	"who nobody":         func(s *api.School) { s.Lessons[2].Who = []int{3} },
	"who twice":          func(s *api.School) { s.Lessons[2].Who = []int{1, 1} },
	"who falling":        func(s *api.School) { s.Lessons[2].Who = []int{1, 0} },
	"groups -1":          func(s *api.School) { s.Lessons[2].Groups = []int{-1} },
	"groups none":        func(s *api.School) { s.Lessons[2].Groups = []int{4} },
	"groups twice":       func(s *api.School) { s.Lessons[2].Groups = []int{0, 0} },
	"groups falling":     func(s *api.School) { s.Lessons[2].Groups = []int{2, 1} },
	"far numbers":        func(s *api.School) { s.Slots[0].Day, s.Slots[0].Hour = -1<<63, 1<<63-1 },
	"far index":          func(s *api.School) { s.Lessons[0].Who = []int{1<<63 - 1} },
	"far negative index": func(s *api.School) { s.Lessons[0].Who = []int{-1 << 63} },
}

func TestCheckOfInvalidSchools(t *testing.T) {
	for name, spoil := range wrong {
		s := sample()
		spoil(&s)
		if e := school.Check(s); e != api.ErrArg {
			t.Errorf("%s: error %d", name, e)
		}
		b, e := school.Put(s)
		if e != api.ErrArg || len(b) != 0 {
			t.Errorf("%s: Put gives %d bytes, error %d", name, len(b), e)
		}
	}
}

// crowds are lists just above their limits.
var crowds = map[string]func(s *api.School){
	"51 slots": func(s *api.School) {
		s.Slots = append(s.Slots, api.Slot{Name: "more", Day: 6, Hour: 11})
	},
	"33 rooms":   func(s *api.School) { s.Rooms = append(s.Rooms, api.Room{Name: "more"}) },
	"65 people":  func(s *api.School) { s.People = append(s.People, api.Person{Name: "more"}) },
	"65 groups":  func(s *api.School) { s.Groups = append(s.Groups, api.Group{Name: "more"}) },
	"65 lessons": func(s *api.School) { s.Lessons = append(s.Lessons, api.Lesson{Name: "more"}) },
}

func TestCheckOfCrowdedSchools(t *testing.T) {
	for name, add := range crowds {
		s := big()
		add(&s)
		if e := school.Check(s); e != api.ErrBound {
			t.Errorf("%s: error %d", name, e)
		}
		if b, e := school.Put(s); e != api.ErrBound || len(b) != 0 {
			t.Errorf("%s: Put reports %d", name, e)
		}
		s.Groups[0].Size = -1
		if e := school.Check(s); e != api.ErrArg {
			t.Errorf("%s and a wrong size: error %d", name, e)
		}
	}
}

func TestCountAndNameAndFind(t *testing.T) {
	s := sample()
	for _, x := range []struct {
		sort  int
		names []string
	}{
		{api.LessonS, []string{"math", "art", "free"}},
		{api.SlotS, []string{"mon1", "tue1", "sun12"}},
		{api.RoomS, []string{"r0", "r7"}},
		{api.PersonS, []string{"ann", "bob", "cy"}},
		{api.GroupS, []string{"g12", "g9", "none", "full"}},
		{api.DayS, []string{"day0", "day1", "day2", "day3", "day4", "day5", "day6"}},
		{api.HouseS, []string{"house0", "house1", "house2", "house3", "house4", "house5", "house6", "house7"}},
		{api.NumS, nil}, {0, nil}, {-1, nil}, {9, nil}, {1<<63 - 1, nil},
	} {
		if n := school.Count(s, x.sort); n != len(x.names) {
			t.Errorf("Count of sort %d is %d", x.sort, n)
		}
		for i, n := range x.names {
			if got := school.Name(s, x.sort, i); got != n {
				t.Errorf("Name(%d, %d) = %q, want %q", x.sort, i, got, n)
			}
			if at, ok := school.Find(s, x.sort, n); at != i || !ok {
				t.Errorf("Find(%d, %q) = %d, %v", x.sort, n, at, ok)
			}
		}
		for _, at := range []int{-1, len(x.names), 1<<63 - 1, -1 << 63} {
			if got := school.Name(s, x.sort, at); got != "" {
				t.Errorf("Name(%d, %d) = %q", x.sort, at, got)
			}
		}
		for _, n := range []string{"", "nobody", "day7", "house8", "day-1", "mon", "mon11"} {
			if at, ok := school.Find(s, x.sort, n); at != 0 || ok {
				t.Errorf("Find(%d, %q) = %d, %v", x.sort, n, at, ok)
			}
		}
	}
	if n := school.Count(api.School{}, api.DayS); n != 7 {
		t.Error("days of the empty school", n)
	}
}

func TestFindTakesTheLeastIndexOfAnySchool(t *testing.T) {
	s := api.School{Slots: []api.Slot{{Name: "x"}, {Name: "Y Y"}, {}, {Name: "Y Y"}, {}}, Rooms: []api.Room{{Name: "hard"}}}
	for n, want := range map[string]int{"x": 0, "Y Y": 1, "": 2} {
		if at, ok := school.Find(s, api.SlotS, n); at != want || !ok {
			t.Errorf("Find(%q) = %d, %v", n, at, ok)
		}
	}
	if at, ok := school.Find(s, api.RoomS, "hard"); at != 0 || !ok {
		t.Error(at, ok)
	}
	if n := school.Name(s, api.SlotS, 3); n != "Y Y" {
		t.Error(n)
	}
}

func TestSize(t *testing.T) {
	s := sample()
	for lesson, want := range map[int]int{0: 21, 1: 1000, 2: 0, 3: 0, -1: 0, 1<<63 - 1: 0} {
		if n := school.Size(s, lesson); n != want {
			t.Errorf("Size of lesson %d is %d, want %d", lesson, n, want)
		}
	}
	s.Lessons[0].Groups = []int{4, 1, -1, 1, 0, 1 << 40}
	if n := school.Size(s, 0); n != 30 {
		t.Error("size with strange indices:", n)
	}
	s.Groups[0].Size, s.Groups[1].Size = 1<<63-1, 3
	s.Lessons[0].Groups = []int{0, 1}
	if n := school.Size(s, 0); n != -1<<63+2 {
		t.Error("size does not wrap around:", n)
	}
}

func TestRelations(t *testing.T) {
	s := sample()
	s.People[2].Away = []int{99, -4}
	s.Rooms[1].Shut = []int{77, -3}
	s.Lessons[2].Who, s.Lessons[2].Groups = []int{50, -2}, []int{60, -5}
	for _, x := range []struct {
		name string
		f    func(s api.School, a, b int) bool
		yes  [][2]int
	}{
		{"Away", school.Away, [][2]int{{0, 1}, {1, 0}, {1, 1}, {1, 2}, {2, 99}, {2, -4}}},
		{"Shut", school.Shut, [][2]int{{0, 0}, {0, 2}, {1, 77}, {1, -3}}},
		{"Teaches", school.Teaches, [][2]int{{0, 0}, {0, 1}, {2, 1}, {50, 2}, {-2, 2}}},
		{"Attends", school.Attends, [][2]int{{0, 0}, {1, 0}, {3, 1}, {60, 2}, {-5, 2}}},
	} {
		for a := -6; a < 101; a++ {
			for b := -6; b < 101; b++ {
				if want := slices.Contains(x.yes, [2]int{a, b}); x.f(s, a, b) != want {
					t.Errorf("%s(%d, %d) is not %v", x.name, a, b, want)
				}
			}
		}
		if x.f(s, 1<<63-1, 1<<63-1) || x.f(s, -1<<63, -1<<63) || x.f(api.School{}, 0, 0) {
			t.Error(x.name, "of nothing")
		}
	}
}

func TestArgumentsAreLeftAlone(t *testing.T) {
	for _, s := range []api.School{sample(), big()} {
		old := copyOf(s)
		b, _ := school.Put(s)
		x, _ := school.Get(b)
		bytes := slices.Clone(b)
		school.Check(s)
		if !reflect.DeepEqual(s, old) || !slices.Equal(b, bytes) {
			t.Error("an argument was changed")
		}
		clear(b)
		if !same(x, s) {
			t.Error("the decoded school shares memory with the bytes")
		}
	}
}

// randomSchool makes a valid school.
func randomSchool(r *rand.Rand) api.School {
	var s api.School
	some := func(n int) []int {
		var l []int
		for i := range n {
			if r.IntN(3) == 0 {
				l = append(l, i)
			}
		}
		return l
	}
	for i, h := range r.Perm(84)[:1+r.IntN(50)] {
		s.Slots = append(s.Slots, api.Slot{Name: fmt.Sprint("s", i), Day: h / 12, Hour: h % 12})
	}
	for i := range 1 + r.IntN(32) {
		s.Rooms = append(s.Rooms, api.Room{Name: fmt.Sprint("r_", i), House: r.IntN(8), Seats: r.IntN(1001), Shut: some(len(s.Slots))})
	}
	for i := range r.IntN(65) {
		s.People = append(s.People, api.Person{Name: fmt.Sprint("p", i), Away: some(len(s.Slots))})
	}
	for i := range r.IntN(65) {
		s.Groups = append(s.Groups, api.Group{Name: fmt.Sprint("g", i), Size: r.IntN(1001)})
	}
	for i := range r.IntN(65) {
		s.Lessons = append(s.Lessons, api.Lesson{Name: fmt.Sprint("l", i), Who: some(len(s.People)), Groups: some(len(s.Groups))})
	}
	return s
}
