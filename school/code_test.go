package school_test

import (
	"bytes"
	"encoding/binary"
	"fmt"
	"math/rand/v2"
	"slices"
	"strings"
	"testing"

	"chalkline/api"
	"chalkline/school"
)

// writer spells an encoded school without any check.
type writer struct{ b []byte }

func (w *writer) number(l ...int) *writer {
	for _, n := range l {
		w.b = binary.AppendVarint(w.b, int64(n))
	}
	return w
}

func (w *writer) text(s string) *writer {
	w.number(len(s))
	w.b = append(w.b, s...)
	return w
}

func (w *writer) list(l []int) *writer { return w.number(len(l)).number(l...) }

// spelt spells s by the words of the promise.
func spelt(s api.School) []byte {
	w := &writer{}
	w.number(len(s.Slots))
	for _, x := range s.Slots {
		w.text(x.Name).number(x.Day, x.Hour)
	}
	w.number(len(s.Rooms))
	for _, x := range s.Rooms {
		w.text(x.Name).number(x.House, x.Seats).list(x.Shut)
	}
	w.number(len(s.People))
	for _, x := range s.People {
		w.text(x.Name).list(x.Away)
	}
	w.number(len(s.Groups))
	for _, x := range s.Groups {
		w.text(x.Name).number(x.Size)
	}
	w.number(len(s.Lessons))
	for _, x := range s.Lessons {
		w.text(x.Name).list(x.Who).list(x.Groups)
	}
	return w.b
}

func TestPutAndGet(t *testing.T) {
	l := []api.School{sample(), big(), {Slots: []api.Slot{{Name: "a"}}, Rooms: []api.Room{{Name: "a"}}}}
	r := rand.New(rand.NewPCG(1, 1))
	for range 200 {
		l = append(l, randomSchool(r))
	}
	for i, s := range l {
		b, e := school.Put(s)
		if e != api.OK || !bytes.Equal(b, spelt(s)) {
			t.Fatalf("%d: Put: error %d, or other bytes", i, e)
		}
		x, e := school.Get(b)
		if e != api.OK || !same(x, s) {
			t.Fatalf("%d: Get: error %d, or another school", i, e)
		}
	}
}

func TestGetOfTooFewOrTooManyBytes(t *testing.T) {
	b := spelt(sample())
	for n := range len(b) {
		if s, e := school.Get(b[:n]); e != api.ErrShort || !same(s, api.School{}) {
			t.Fatalf("Get of %d of %d bytes: error %d", n, len(b), e)
		}
	}
	for _, more := range [][]byte{{0}, {128}, b} {
		if s, e := school.Get(append(slices.Clone(b), more...)); e != api.ErrForm || !same(s, api.School{}) {
			t.Errorf("Get with %d bytes left over: error %d", len(more), e)
		}
	}
}

func TestGetOfInvalidSchools(t *testing.T) {
	for name, spoil := range wrong {
		s := sample()
		spoil(&s)
		want := api.ErrForm
		if name == "65 bytes" {
			want = api.ErrBound
		}
		if x, e := school.Get(spelt(s)); e != want || !same(x, api.School{}) {
			t.Errorf("%s: error %d, want %d", name, e, want)
		}
	}
	for name, add := range crowds {
		s := big()
		add(&s)
		if x, e := school.Get(spelt(s)); e != api.ErrBound || !same(x, api.School{}) {
			t.Errorf("%s: error %d", name, e)
		}
	}
}

// start spells the lists before list number k, counted from 0, each with one element.
func start(k int) *writer {
	w := &writer{}
	lists := []func(){
		func() { w.number(1).text("s").number(0, 0) },
		func() { w.number(1).text("r").number(0, 0).list(nil) },
		func() { w.number(1).text("p").list(nil) },
		func() { w.number(1).text("g").number(0) },
		func() { w.number(1).text("l").list(nil).list(nil) },
	}
	for _, f := range lists[:k] {
		f()
	}
	return w
}

func TestGetStopsAtTheCounts(t *testing.T) {
	for k, most := range []int{50, 32, 64, 64, 64} {
		for _, x := range []struct {
			n int
			e api.Errno
		}{{-1, api.ErrForm}, {-1 << 63, api.ErrForm}, {most + 1, api.ErrBound}, {1<<63 - 1, api.ErrBound}, {most, api.ErrShort}, {1, api.ErrShort}} {
			// Nothing follows the count, and behind it stands what would be an error of its own.
			if _, e := school.Get(start(k).number(x.n).b); e != x.e {
				t.Errorf("count %d of list %d: error %d, want %d", x.n, k, e, x.e)
			}
			if x.e == api.ErrShort {
				continue
			}
			if _, e := school.Get(append(start(k).number(x.n).b, 128, 0)); e != x.e {
				t.Errorf("count %d of list %d before a malformed number: error %d, want %d", x.n, k, e, x.e)
			}
		}
		if _, e := school.Get(append(start(k).b, 128, 0)); e != api.ErrForm {
			t.Errorf("malformed count of list %d: error %d", k, e)
		}
	}
}

func TestGetLimitsTextsAndLists(t *testing.T) {
	name := strings.Repeat("n", 65)
	var many []int
	for i := range 65 {
		many = append(many, i)
	}
	for i, x := range []struct {
		b []byte
		e api.Errno
	}{
		{start(0).number(1).number(65).b, api.ErrBound},
		{start(0).number(1).number(64).b, api.ErrShort},
		{start(0).number(1).number(-1).b, api.ErrForm},
		{start(0).number(1).text(name).b, api.ErrBound},
		{start(1).number(1).text(name).b, api.ErrBound},
		{start(2).number(1).text(name).b, api.ErrBound},
		{start(3).number(1).text(name).b, api.ErrBound},
		{start(4).number(1).text(name).b, api.ErrBound},
		{start(0).number(1).text(name[:64]).b, api.ErrShort},
		{start(1).number(1).text("r").number(0, 0).list(many).b, api.ErrBound},
		{start(1).number(1).text("r").number(0, 0).list(many[:64]).b, api.ErrShort},
		{start(2).number(1).text("p").list(many).b, api.ErrBound},
		{start(2).number(1).text("p").list(many[:64]).b, api.ErrShort},
		{start(4).number(1).text("l").list(many).b, api.ErrBound},
		{start(4).number(1).text("l").list(nil).list(many).b, api.ErrBound},
		{start(4).number(1).text("l").list(many[:64]).list(many[:64]).b, api.ErrForm},
		{start(1).number(1).text("r").number(0, 0, -1).b, api.ErrForm},
		// The first error counts, not the worst: an invalid name before a text that is too long, and the other way round.
		{start(0).number(2).text("A").number(0, 0).text(name).b, api.ErrBound},
		{start(0).number(2).text(name).number(-1).b, api.ErrBound},
		{start(0).number(51).text("A").number(0, 0).b, api.ErrBound},
	} {
		if _, e := school.Get(x.b); e != x.e {
			t.Errorf("%d: error %d, want %d", i, e, x.e)
		}
	}
	if _, e := school.Get(start(5).b); e != api.OK {
		t.Error("the school of one of each:", e)
	}
}

// A change of a byte gives an error, or a school that is written with that very change.
func TestGetAcceptsOnlyWhatPutWrites(t *testing.T) {
	r := rand.New(rand.NewPCG(4, 4))
	ok := 0
	for range 6000 {
		b := spelt(sample())
		for range 1 + r.IntN(2) {
			b[r.IntN(len(b))] = byte(r.IntN(256))
		}
		s, e := school.Get(b)
		if e != api.OK {
			continue
		}
		ok++
		if x, e := school.Put(s); e != api.OK || !bytes.Equal(x, b) {
			t.Fatal("accepted, but not written so:", fmt.Sprint(b))
		}
	}
	if ok == 0 {
		t.Error("no change was accepted, which proves little")
	}
}
