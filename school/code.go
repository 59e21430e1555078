package school

import (
	"chalkline/api"
	"chalkline/octet"
)

// maxList is the greatest number of indices that a list of an encoded school may have.
const maxList = 64

// Put encodes a school.
func Put(s api.School) ([]byte, api.Errno) {
	if e := Check(s); e != api.OK {
		return nil, e
	}
	b := putList(nil, s.Slots, func(b []byte, x api.Slot) []byte {
		return octet.PutInt(octet.PutInt(octet.PutText(b, x.Name), x.Day), x.Hour)
	})
	b = putList(b, s.Rooms, func(b []byte, x api.Room) []byte {
		b = octet.PutInt(octet.PutText(b, x.Name), x.House)
		return octet.PutInts(octet.PutInt(b, x.Seats), x.Shut)
	})
	b = putList(b, s.People, func(b []byte, x api.Person) []byte {
		return octet.PutInts(octet.PutText(b, x.Name), x.Away)
	})
	b = putList(b, s.Groups, func(b []byte, x api.Group) []byte {
		return octet.PutInt(octet.PutText(b, x.Name), x.Size)
	})
	b = putList(b, s.Lessons, func(b []byte, x api.Lesson) []byte {
		return octet.PutInts(octet.PutInts(octet.PutText(b, x.Name), x.Who), x.Groups)
	})
	return b, api.OK
}

// Get decodes a school.
func Get(b []byte) (api.School, api.Errno) {
	r := &reader{b: b}
	// The fields of a composite literal are read in the order in which they are written.
	s := api.School{
		Slots: getList(r, api.MaxSlots, func() api.Slot {
			return api.Slot{Name: r.text(), Day: r.number(), Hour: r.number()}
		}),
		Rooms: getList(r, api.MaxRooms, func() api.Room {
			return api.Room{Name: r.text(), House: r.number(), Seats: r.number(), Shut: r.numbers()}
		}),
		People: getList(r, api.MaxPeople, func() api.Person {
			return api.Person{Name: r.text(), Away: r.numbers()}
		}),
		Groups: getList(r, api.MaxGroups, func() api.Group {
			return api.Group{Name: r.text(), Size: r.number()}
		}),
		Lessons: getList(r, api.MaxLessons, func() api.Lesson {
			return api.Lesson{Name: r.text(), Who: r.numbers(), Groups: r.numbers()}
		}),
	}
	if r.e == api.OK && (r.at != len(b) || Check(s) != api.OK) {
		r.e = api.ErrForm
	}
	if r.e != api.OK {
		return api.School{}, r.e
	}
	return s, api.OK
}

// putList appends the number of elements of l and, by put, each of them.
func putList[T any](b []byte, l []T, put func([]byte, T) []byte) []byte {
	b = octet.PutInt(b, len(l))
	for _, x := range l {
		b = put(b, x)
	}
	return b
}

// getList reads a number of elements of at most most and, by get, each of them.
func getList[T any](r *reader, most int, get func() T) []T {
	var l []T
	for range r.count(most) {
		l = append(l, get())
	}
	return l
}

// reader reads the fields of an encoded school. After the first error it stays where it is and reads zero values.
type reader struct {
	b  []byte
	at int
	e  api.Errno
}

// number reads an integer.
func (r *reader) number() int {
	return read(r, octet.GetInt)
}

// text reads a text.
func (r *reader) text() string {
	return read(r, func(b []byte, at int) (string, int, api.Errno) {
		return octet.GetText(b, at, api.MaxText)
	})
}

// numbers reads a list of integers.
func (r *reader) numbers() []int {
	return read(r, func(b []byte, at int) ([]int, int, api.Errno) {
		return octet.GetInts(b, at, maxList)
	})
}

// count reads a number of elements of at most most.
func (r *reader) count(most int) int {
	n := r.number()
	switch {
	case n < 0:
		r.e = api.ErrForm
	case n > most:
		r.e = api.ErrBound
	default:
		return n
	}
	return 0
}

// read reads one field by get, unless there was an error before.
func read[T any](r *reader, get func(b []byte, at int) (T, int, api.Errno)) T {
	var none T
	if r.e != api.OK {
		return none
	}
	x, next, e := get(r.b, r.at)
	if e != api.OK {
		r.e = e
		return none
	}
	r.at = next
	return x
}
