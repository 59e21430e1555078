package week_test

import (
	"bytes"
	"encoding/binary"
	"fmt"
	"math/rand/v2"
	"slices"
	"testing"

	"chalkline/api"
	"chalkline/octet"
	"chalkline/week"
)

// plain is a school with the given numbers of lessons, slots and rooms.
func plain(lessons, slots, rooms int) api.School {
	var s api.School
	for i := range lessons {
		s.Lessons = append(s.Lessons, api.Lesson{Name: fmt.Sprint("l", i)})
	}
	for i := range slots {
		s.Slots = append(s.Slots, api.Slot{Name: fmt.Sprint("s", i), Day: i / 12, Hour: i % 12})
	}
	for i := range rooms {
		s.Rooms = append(s.Rooms, api.Room{Name: fmt.Sprint("r", i)})
	}
	return s
}

// invalid are schools that school.Check refuses, with its error.
var invalid = []struct {
	s api.School
	e api.Errno
}{
	{api.School{}, api.ErrArg}, {plain(1, 0, 1), api.ErrArg}, {plain(1, 1, 0), api.ErrArg},
	{plain(65, 1, 1), api.ErrBound}, {plain(1, 51, 1), api.ErrBound}, {plain(1, 1, 33), api.ErrBound},
}

func weekOf(l ...int) api.Week {
	var w api.Week
	for i := 0; i < len(l); i += 2 {
		w.L = append(w.L, api.Place{Slot: l[i], Room: l[i+1]})
	}
	return w
}

func same(a, b api.Week) bool { return slices.Equal(a.L, b.L) }

// randomWeek makes a valid week.
func randomWeek(r *rand.Rand, s api.School) api.Week {
	var w api.Week
	for range s.Lessons {
		w.L = append(w.L, api.Place{Slot: r.IntN(len(s.Slots)), Room: r.IntN(len(s.Rooms))})
	}
	return w
}

func TestCheck(t *testing.T) {
	s := plain(2, 3, 2)
	for _, x := range []struct {
		w api.Week
		e api.Errno
	}{
		{weekOf(0, 0, 2, 1), api.OK}, {weekOf(2, 1, 0, 0), api.OK},
		{weekOf(), api.ErrPlace}, {weekOf(0, 0), api.ErrPlace}, {weekOf(0, 0, 0, 0, 0, 0), api.ErrPlace},
		{weekOf(3, 0, 0, 0), api.ErrPlace}, {weekOf(0, 0, -1, 0), api.ErrPlace},
		{weekOf(0, 2, 0, 0), api.ErrPlace}, {weekOf(0, 0, 0, -1), api.ErrPlace},
		{weekOf(1<<63-1, 0, 0, 0), api.ErrPlace}, {weekOf(0, 0, 0, -1<<63), api.ErrPlace},
	} {
		if e := week.Check(s, x.w); e != x.e {
			t.Errorf("Check(%v) = %d, want %d", x.w, e, x.e)
		}
		if a, e := week.True(s, x.w); e != x.e || e != api.OK && len(a) > 0 {
			t.Errorf("True(%v) reports %d, want %d", x.w, e, x.e)
		}
	}
	if e := week.Check(plain(0, 1, 1), api.Week{}); e != api.OK {
		t.Error("the empty week:", e)
	}
	for i, x := range invalid {
		w := randomWeek(rand.New(rand.NewPCG(1, 1)), plain(len(x.s.Lessons), 1, 1))
		if e := week.Check(x.s, w); e != x.e {
			t.Errorf("invalid school %d: %d", i, e)
		}
		if e := week.Check(x.s, weekOf(7, 7, 7, 7, 7, 7)); e != x.e {
			t.Errorf("invalid school %d with an invalid week: %d", i, e)
		}
		if a, e := week.True(x.s, w); e != x.e || len(a) > 0 {
			t.Errorf("True of invalid school %d: %d", i, e)
		}
		if a, e := week.Of(x.s, nil); e != x.e || !same(a, api.Week{}) {
			t.Errorf("Of of invalid school %d: %d", i, e)
		}
		if l, e := week.All(x.s, -1); e != x.e || len(l) > 0 {
			t.Errorf("All of invalid school %d: %d", i, e)
		}
	}
}

func TestVariables(t *testing.T) {
	for _, x := range [][3]int{{2, 2, 2}, {2, 3, 1}, {1, 1, 1}, {0, 2, 2}, {3, 5, 4}, {64, 50, 32}, {70, 60, 40}, {2, 0, 0}} {
		s := plain(x[0], x[1], x[2])
		if n := week.Vars(s); n != x[0]*x[1]+x[0]*x[2] {
			t.Errorf("Vars of %v is %d", x, n)
		}
		v := 0
		for l := range x[0] {
			for k := range x[1] {
				if v++; week.At(s, l, k) != v {
					t.Fatalf("At(%v, %d, %d) = %d, want %d", x, l, k, week.At(s, l, k), v)
				}
			}
		}
		for l := range x[0] {
			for k := range x[2] {
				if v++; week.In(s, l, k) != v {
					t.Fatalf("In(%v, %d, %d) = %d, want %d", x, l, k, week.In(s, l, k), v)
				}
			}
		}
		if v != week.Vars(s) {
			t.Error("some variables mean nothing")
		}
		for _, far := range []int{-1, 1000, 1<<63 - 1, -1 << 63} {
			if week.At(s, far, 0) != 0 || week.At(s, 0, far) != 0 || week.In(s, far, 0) != 0 || week.In(s, 0, far) != 0 {
				t.Error("a variable of nothing", x, far)
			}
		}
		if week.At(s, x[0], 0) != 0 || week.At(s, 0, x[1]) != 0 || week.In(s, x[0], 0) != 0 || week.In(s, 0, x[2]) != 0 {
			t.Error("a variable of nothing", x)
		}
	}
	if s := plain(2, 2, 2); week.Vars(s) != 8 || week.At(s, 1, 0) != 3 || week.In(s, 0, 1) != 6 {
		t.Error("the chapter's example")
	}
}

func TestTrueAndOf(t *testing.T) {
	r := rand.New(rand.NewPCG(2, 2))
	for _, x := range [][3]int{{2, 3, 2}, {1, 1, 1}, {0, 2, 2}, {5, 4, 3}, {64, 50, 32}} {
		s := plain(x[0], x[1], x[2])
		for range 50 {
			w := randomWeek(r, s)
			a, e := week.True(s, w)
			want := make([]bool, 1+week.Vars(s))
			for i, p := range w.L {
				want[week.At(s, i, p.Slot)], want[week.In(s, i, p.Room)] = true, true
			}
			if e != api.OK || !slices.Equal(a, want) {
				t.Fatal("True", x, w, a, e)
			}
			// Index 0 and what lies above the variables don't matter.
			a[0] = r.IntN(2) == 0
			a = append(a, true, false, true)
			if back, e := week.Of(s, a); e != api.OK || !same(back, w) {
				t.Fatal("Of", x, w, back, e)
			}
		}
	}
}

func TestOfRefusesWhatIsNoWeek(t *testing.T) {
	s := plain(2, 3, 2)
	w := weekOf(1, 0, 2, 1)
	good, _ := week.True(s, w)
	for v := 1; v <= week.Vars(s); v++ {
		a := slices.Clone(good)
		a[v] = !a[v]
		if x, e := week.Of(s, a); e != api.ErrPlace || !same(x, api.Week{}) {
			t.Errorf("variable %d flipped: %v, %d", v, x, e)
		}
	}
	// The last variable in use is 10: room 1 of lesson 1. A shorter assignment lacks it.
	for n := range good {
		x, e := week.Of(s, good[:n])
		if n <= 10 && (e != api.ErrPlace || !same(x, api.Week{})) || n > 10 && e != api.OK {
			t.Errorf("%d elements: %v, %d", n, x, e)
		}
	}
	first, _ := week.True(s, weekOf(0, 0, 0, 0))
	if x, e := week.Of(s, first[:10]); e != api.OK || !same(x, weekOf(0, 0, 0, 0)) {
		t.Error("variables beyond the assignment are not false", x, e)
	}
	if x, e := week.Of(plain(0, 2, 2), nil); e != api.OK || !same(x, api.Week{}) {
		t.Error("no lessons:", x, e)
	}
}

// Every assignment of a small school either is that of a week or is refused.
func TestOfAllAssignments(t *testing.T) {
	s := plain(2, 2, 1)
	weeks, _ := week.All(s, 100)
	found := 0
	for bits := range 1 << 6 {
		a := make([]bool, 7)
		for v := range 6 {
			a[v+1] = bits>>v&1 == 1
		}
		w, e := week.Of(s, a)
		if e == api.ErrPlace {
			continue
		}
		b, _ := week.True(s, w)
		if e != api.OK || !slices.Equal(a, b) {
			t.Fatal(a, w, e)
		}
		found++
	}
	if found != len(weeks) || found != 4 {
		t.Error(found, len(weeks))
	}
}

func TestDiffAndApply(t *testing.T) {
	a, b := weekOf(1, 2, 3, 4, 5, 6, 7, 8), weekOf(1, 2, 3, 5, 6, 6, -7, 8)
	l, e := week.Diff(a, b)
	want := []api.Move{{Lesson: 1, To: api.Place{Slot: 3, Room: 5}}, {Lesson: 2, To: api.Place{Slot: 6, Room: 6}}, {Lesson: 3, To: api.Place{Slot: -7, Room: 8}}}
	if e != api.OK || !slices.Equal(l, want) {
		t.Error(l, e)
	}
	if w, e := week.Apply(a, l); e != api.OK || !same(w, b) {
		t.Error(w, e)
	}
	for _, x := range [][2]api.Week{{a, weekOf()}, {weekOf(), a}, {a, weekOf(1, 2)}} {
		if l, e := week.Diff(x[0], x[1]); e != api.ErrArg || len(l) > 0 {
			t.Error(x, l, e)
		}
	}
	if l, e := week.Diff(a, a); e != api.OK || len(l) > 0 {
		t.Error(l, e)
	}
	if l, e := week.Diff(weekOf(), weekOf()); e != api.OK || len(l) > 0 {
		t.Error(l, e)
	}
	to := api.Place{Slot: 1 << 62, Room: -9}
	for _, x := range []struct {
		lessons []int
		e       api.Errno
	}{
		{nil, api.OK}, {[]int{0}, api.OK}, {[]int{3}, api.OK}, {[]int{0, 1, 3}, api.OK}, {[]int{0, 1, 2, 3}, api.OK},
		{[]int{-1}, api.ErrArg}, {[]int{4}, api.ErrArg}, {[]int{1, 1}, api.ErrArg}, {[]int{2, 1}, api.ErrArg}, {[]int{0, 3, 2}, api.ErrArg},
		{[]int{0, 4}, api.ErrArg}, {[]int{1<<63 - 1}, api.ErrArg}, {[]int{-1 << 63}, api.ErrArg}, {[]int{0, -1}, api.ErrArg},
	} {
		var l []api.Move
		want := slices.Clone(a.L)
		for _, i := range x.lessons {
			l = append(l, api.Move{Lesson: i, To: to})
			if x.e == api.OK {
				want[i] = to
			} else {
				want = nil
			}
		}
		if w, e := week.Apply(a, l); e != x.e || !slices.Equal(w.L, want) {
			t.Errorf("Apply of moves of %v: %v, %d", x.lessons, w, e)
		}
	}
}

func TestDiffThenApply(t *testing.T) {
	r := rand.New(rand.NewPCG(3, 3))
	for range 500 {
		s := plain(r.IntN(10), 1+r.IntN(3), 1+r.IntN(2))
		a, b := randomWeek(r, s), randomWeek(r, s)
		l, e := week.Diff(a, b)
		n := 0
		for i := range a.L {
			if a.L[i] != b.L[i] {
				n++
			}
		}
		w, f := week.Apply(a, l)
		if e != api.OK || f != api.OK || len(l) != n || !same(w, b) {
			t.Fatal(a, b, l, w, e, f)
		}
	}
}

func TestAll(t *testing.T) {
	for _, x := range []struct {
		l, s, r, n int
	}{{0, 3, 2, 1}, {1, 3, 2, 6}, {2, 2, 2, 16}, {3, 2, 1, 8}, {3, 1, 3, 27}, {64, 1, 1, 1}, {12, 2, 1, 4096}, {2, 8, 8, 4096}} {
		s := plain(x.l, x.s, x.r)
		l, e := week.All(s, x.n)
		if e != api.OK || len(l) != x.n {
			t.Fatal(x, len(l), e)
		}
		var keys [][]int
		for _, w := range l {
			if e := week.Check(s, w); e != api.OK {
				t.Fatal(x, w, e)
			}
			var k []int
			for _, p := range w.L {
				k = append(k, p.Slot, p.Room)
			}
			keys = append(keys, k)
		}
		for i := 1; i < len(keys); i++ {
			if slices.Compare(keys[i-1], keys[i]) >= 0 {
				t.Fatal("not in order", x, keys[i-1], keys[i])
			}
		}
		if more, e := week.All(s, x.n+1); e != api.OK || len(more) != x.n {
			t.Error(x, len(more), e)
		}
		if less, e := week.All(s, x.n-1); e != api.ErrBound || len(less) > 0 {
			t.Error(x, len(less), e)
		}
		for _, most := range []int{-1, -1 << 63} {
			if none, e := week.All(s, most); e != api.ErrArg || len(none) > 0 {
				t.Error(x, most, len(none), e)
			}
		}
	}
	if l, _ := week.All(plain(2, 2, 2), 16); !same(l[1], weekOf(0, 0, 0, 1)) || !same(l[2], weekOf(0, 0, 1, 0)) || !same(l[4], weekOf(0, 1, 0, 0)) {
		t.Error("the chapter's example", l)
	}
}

func TestAllOfTooManyWeeks(t *testing.T) {
	// 2 to the power of 64 weeks: a product that wraps around would be 0.
	for _, s := range []api.School{plain(64, 2, 1), plain(64, 50, 32), plain(63, 2, 1), plain(32, 2, 2), plain(40, 3, 1)} {
		for _, most := range []int{0, 1, 4096, 1 << 20} {
			if l, e := week.All(s, most); e != api.ErrBound || len(l) > 0 {
				t.Error(len(s.Lessons), most, len(l), e)
			}
		}
	}
	if l, e := week.All(plain(64, 2, 1), 1<<63-1); e != api.ErrBound || len(l) > 0 {
		t.Error(len(l), e)
	}
	if l, e := week.All(plain(3, 2, 1), 1<<63-1); e != api.OK || len(l) != 8 {
		t.Error(len(l), e)
	}
}

// spelt spells integers as layer 1 does.
func spelt(b []byte, l ...int) []byte {
	for _, n := range l {
		b = binary.AppendVarint(b, int64(n))
	}
	return b
}

func TestPutAndGet(t *testing.T) {
	r := rand.New(rand.NewPCG(4, 4))
	for _, n := range []int{0, 1, 2, 63, 64} {
		var w api.Week
		want := spelt([]byte{8, 9}, n)
		for range n {
			p := api.Place{Slot: int(r.Uint64()), Room: r.IntN(9) - 4}
			w.L = append(w.L, p)
			want = spelt(want, p.Slot, p.Room)
		}
		b := week.Put([]byte{8, 9}, w)
		if !bytes.Equal(b, want) {
			t.Fatal(w, b)
		}
		b = append(b, 0)
		if x, next, e := week.Get(b, 2); e != api.OK || next != len(b)-1 || !same(x, w) {
			t.Fatal(w, x, next, e)
		}
	}
	if b := week.Put(nil, api.Week{L: make([]api.Place, 100000)}); len(b) != 200003 {
		t.Error("a long week takes", len(b), "bytes")
	}
}

func TestGetErrors(t *testing.T) {
	whole := spelt(nil, 2, 1, -1, 300, 7)
	for i, x := range []struct {
		b  []byte
		at int
		e  api.Errno
	}{
		{nil, 0, api.ErrShort}, {nil, 1, api.ErrArg}, {nil, -1, api.ErrArg}, {whole, len(whole) + 1, api.ErrArg}, {whole, len(whole), api.ErrShort},
		{[]byte{128, 0}, 0, api.ErrForm}, {spelt(nil, -1), 0, api.ErrForm}, {spelt(nil, -1<<63), 0, api.ErrForm},
		{spelt(nil, 65), 0, api.ErrBound}, {spelt(nil, 1<<62), 0, api.ErrBound}, {spelt(nil, 64), 0, api.ErrShort},
		{append(spelt(nil, 65), 128, 0), 0, api.ErrBound}, {append(spelt(nil, 1, 5), 128, 0), 0, api.ErrForm}, {append(spelt(nil, 1), 128, 0), 0, api.ErrForm},
		{append(spelt(nil, 2, 1, 1), 128), 0, api.ErrShort},
	} {
		if w, next, e := week.Get(x.b, x.at); e != x.e || next != 0 || !same(w, api.Week{}) {
			t.Errorf("%d: %v, %d, %d", i, w, next, e)
		}
	}
	for n := range len(whole) {
		if w, next, e := week.Get(whole[:n], 0); e != api.ErrShort || next != 0 || !same(w, api.Week{}) {
			t.Errorf("%d bytes: %v, %d, %d", n, w, next, e)
		}
	}
	if w, next, e := week.Get(whole, 0); e != api.OK || next != len(whole) || !same(w, weekOf(1, -1, 300, 7)) {
		t.Error(w, next, e)
	}
}

func TestReadBytesAreTheWritten(t *testing.T) {
	r := rand.New(rand.NewPCG(5, 5))
	for range 5000 {
		b := octet.PutInts(nil, []int{r.IntN(9), r.IntN(5)})[1:]
		for range r.IntN(8) {
			b = append(b, []byte{0, 1, 2, 4, 128, 129, 255}[r.IntN(7)])
		}
		if w, next, e := week.Get(b, 0); e == api.OK && !bytes.Equal(week.Put(nil, w), b[:next]) {
			t.Fatal(b, w, next)
		}
	}
}

func TestMemoryIsNotShared(t *testing.T) {
	all := bytes.Repeat([]byte{9}, 40)
	b := all[:2]
	x := week.Put(b, weekOf(1, 1))
	y := week.Put(b, weekOf())
	if !bytes.Equal(all, bytes.Repeat([]byte{9}, 40)) {
		t.Error("Put wrote behind its argument")
	}
	b[0], y[0] = 1, 2
	if x[0] != 9 {
		t.Error("Put shares memory")
	}
	w := weekOf(0, 0, 1, 1)
	v, _ := week.Apply(w, nil)
	u, _ := week.Apply(w, []api.Move{{Lesson: 1}})
	if !same(w, weekOf(0, 0, 1, 1)) {
		t.Error("Apply changed its argument")
	}
	w.L[0].Slot = 5
	if !same(v, weekOf(0, 0, 1, 1)) || !same(u, weekOf(0, 0, 0, 0)) {
		t.Error("Apply shares memory")
	}
	l, _ := week.All(plain(2, 2, 1), 4)
	l[0].L[0].Slot = 7
	l[0].L = append(l[0].L[:1], api.Place{Slot: 8})
	if !same(l[1], weekOf(0, 0, 1, 0)) || !same(l[2], weekOf(1, 0, 0, 0)) {
		t.Error("weeks share memory")
	}
}
