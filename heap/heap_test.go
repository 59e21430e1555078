package heap_test

import (
	"cmp"
	"fmt"
	"slices"
	"testing"

	"chalkline/api"
	"chalkline/heap"
	"chalkline/sample"
)

const (
	far  = 1<<63 - 1
	most = 1 << 40
)

// of returns a heap with the activities of the variables from 1 on.
func of(by int, l []int, act ...int) api.Heap {
	return api.Heap{Act: append([]int{0}, act...), L: l, By: by}
}

func same(a, b api.Heap) bool {
	return slices.Equal(a.Act, b.Act) && slices.Equal(a.L, b.L) && a.By == b.By
}

func TestNew(t *testing.T) {
	for n, want := range map[int]api.Errno{0: api.OK, 1: api.OK, 3: api.OK, 65536: api.OK, 65537: api.ErrArg, -1: api.ErrArg, far: api.ErrArg, -far - 1: api.ErrArg} {
		h, e := heap.New(n)
		if e != want {
			t.Errorf("New(%d): %d", n, e)
		}
		if e != api.OK {
			if !same(h, api.Heap{}) {
				t.Error("a heap beside an error")
			}
			continue
		}
		if len(h.Act) != n+1 || len(h.L) != n || h.By != 1 || slices.Max(h.Act) != 0 || heap.Check(h) != api.OK {
			t.Errorf("New(%d): %d, %d, %d", n, len(h.Act), len(h.L), h.By)
		}
		for i, v := range h.L {
			if v != i+1 {
				t.Fatal(i, v)
			}
		}
	}
}

// bad are heaps that no function takes.
func bad() []api.Heap {
	l := []api.Heap{
		{}, {By: 1}, {Act: []int{0}}, {Act: []int{0}, By: -1}, {Act: []int{0}, By: most + 1}, {Act: []int{0}, By: far}, {Act: []int{1}, By: 1}, {Act: []int{-1}, By: 1}, {Act: make([]int, 65538), By: 1},
		of(1, nil, -1), of(1, nil, most+1), of(1, nil, 5, far), of(1, nil, -far-1), of(1, []int{0}, 5), of(1, []int{2}, 5), of(1, []int{-1}, 5), of(1, []int{far}, 5), of(1, []int{1, 1}, 5), of(1, []int{2, 1}, 5, 5), of(1, []int{1, 2}, 4, 5), of(1, []int{3, 1, 2}, 4, 4, 4), of(1, []int{1, 2, 1}, 4, 4), of(1, []int{1, 3, 2}, 4, 4, 4),
	}
	return l
}

func TestCheck(t *testing.T) {
	for i, h := range bad() {
		if e := heap.Check(h); e != api.ErrArg {
			t.Errorf("%d: %d", i, e)
		}
		a, e1 := heap.Bump(h, 1)
		b, e2 := heap.Decay(h)
		c, v, e3 := heap.Pop(h)
		d, e4 := heap.Push(h, 1)
		if e1 != api.ErrArg || e2 != api.ErrArg || e3 != api.ErrArg || e4 != api.ErrArg || v != 0 || !same(a, api.Heap{}) || !same(b, api.Heap{}) || !same(c, api.Heap{}) || !same(d, api.Heap{}) {
			t.Errorf("%d: %d, %d, %d, %d", i, e1, e2, e3, e4)
		}
	}
	for i, h := range []api.Heap{{Act: []int{0}, By: 1}, {Act: []int{0}, By: most}, {Act: make([]int, 65537), By: 1}, of(1, nil, most, 0), of(1, []int{2, 1}, 4, 5), of(1, []int{1, 2}, 5, 5), of(1, []int{2, 3, 1}, 1, 7, 7), of(1, []int{3}, 1, 7, 7), of(1, []int{4, 1}, 1, 7, 7, most)} {
		if e := heap.Check(h); e != api.OK {
			t.Errorf("%d: %d", i, e)
		}
	}
}

func TestBump(t *testing.T) {
	for i, x := range []struct {
		h, want api.Heap
		v       int
		e       api.Errno
	}{
		{of(1, []int{1, 2, 3}, 0, 0, 0), of(1, []int{2, 1, 3}, 0, 1, 0), 2, api.OK}, {of(3, []int{1, 2, 3}, 4, 2, 1), of(3, []int{1, 3, 2}, 4, 2, 4), 3, api.OK}, {of(2, []int{1, 2, 3}, 4, 2, 1), of(2, []int{1, 3, 2}, 4, 2, 3), 3, api.OK}, {of(1, []int{2, 3}, 4, 2, 1), of(1, []int{2, 3}, 5, 2, 1), 1, api.OK}, {of(9, nil, 4, 2), of(9, nil, 4, 11), 2, api.OK},
		{of(1, []int{1}, 4), api.Heap{}, 0, api.ErrArg}, {of(1, []int{1}, 4), api.Heap{}, 2, api.ErrArg}, {of(1, []int{1}, 4), api.Heap{}, -1, api.ErrArg}, {of(1, []int{1}, 4), api.Heap{}, far, api.ErrArg}, {of(1, nil), api.Heap{}, 1, api.ErrArg},
		{of(1, []int{1}, most-1), of(1, []int{1}, most), 1, api.OK}, {of(1, []int{1}, most), of(1, []int{1}, most/1024), 1, api.OK}, {of(2047, []int{2, 1}, 2047, most-2047), of(2047, []int{2, 1}, 2047, most), 2, api.OK},
		// After rescaling the activities of 1 and 2 are equal, so that their order changes.
		{of(2047, []int{3, 2, 1}, 1024, 1025, most), of(1, []int{3, 1, 2}, 1, 1, (most+2047)/1024), 3, api.OK}, {of(most, []int{2, 1}, 5, most), of(most/1024, []int{2, 1}, 0, most/512), 2, api.OK}, {of(2048, []int{4, 1}, 1023, 1024, most, 2047), of(2, []int{4, 1}, 0, 1, (most+2048)/1024, 1), 3, api.OK},
	} {
		if h, e := heap.Bump(x.h, x.v); !same(h, x.want) || e != x.e {
			t.Errorf("%d: %v, %d; want %v", i, h, e, x.want)
		}
	}
}

func TestDecay(t *testing.T) {
	for i, x := range []struct{ h, want api.Heap }{
		{of(1, nil), of(2, nil)}, {of(19, nil), of(20, nil)}, {of(20, nil), of(22, nil)}, {of(39, []int{1}, 7), of(41, []int{1}, 7)}, {of(40, nil), of(43, nil)}, {of(1000000, nil), of(1050001, nil)},
		{of(most, []int{2, 1}, 2048, 4095), of((most+most/20+1)/1024, []int{2, 1}, 2, 3)}, {of(most, []int{2, 1}, 2048, 3071), of((most+most/20+1)/1024, []int{1, 2}, 2, 2)},
	} {
		if h, e := heap.Decay(x.h); !same(h, x.want) || e != api.OK {
			t.Errorf("%d: %v, %d; want %v", i, h, e, x.want)
		}
	}
	// The increment may reach the limit, but not exceed it.
	by := most/21*20 + 100
	for by+by/20+1 > most {
		by--
	}
	if h, e := heap.Decay(of(by, nil)); h.By != by+by/20+1 || e != api.OK {
		t.Error(h, e)
	}
	if h, e := heap.Decay(of(by+1, nil)); h.By > most/1024+1 || e != api.OK {
		t.Error(h, e)
	}
}

func TestPopAndPush(t *testing.T) {
	h := of(5, []int{3, 1, 2}, 4, 4, 9)
	x, v, e := heap.Pop(h)
	if !same(x, of(5, []int{1, 2}, 4, 4, 9)) || v != 3 || e != api.OK {
		t.Error(x, v, e)
	}
	if x, v, e := heap.Pop(of(5, nil, 4, 4)); !same(x, api.Heap{}) || v != 0 || e != api.ErrNo {
		t.Error(x, v, e)
	}
	if y, e := heap.Push(x, 3); !same(y, h) || e != api.OK {
		t.Error(y, e)
	}
	if y, e := heap.Push(of(5, []int{3, 2}, 4, 4, 9), 1); !same(y, h) || e != api.OK {
		t.Error(y, e)
	}
	if y, e := heap.Push(of(5, []int{3, 1}, 4, 4, 9), 2); !same(y, h) || e != api.OK {
		t.Error(y, e)
	}
	for v, want := range map[int]api.Errno{1: api.ErrNo, 3: api.ErrNo, 0: api.ErrArg, 4: api.ErrArg, -1: api.ErrArg, far: api.ErrArg, -far - 1: api.ErrArg} {
		if y, e := heap.Push(h, v); !same(y, api.Heap{}) || e != want {
			t.Error(v, y, e)
		}
	}
}

func TestTheExampleOfTheChapter(t *testing.T) {
	h, _ := heap.New(3)
	h, _ = heap.Bump(h, 2)
	var l []int
	for range 3 {
		var v int
		h, v, _ = heap.Pop(h)
		l = append(l, v)
	}
	if !slices.Equal(l, []int{2, 1, 3}) {
		t.Error(l)
	}
}

func TestRandomHeaps(t *testing.T) {
	r := sample.New(1)
	for range 200 {
		n := 1 + r.Below(12)
		h, _ := heap.New(n)
		act, by := make([]int, n+1), 1
		queued := map[int]bool{}
		for v := 1; v <= n; v++ {
			queued[v] = true
		}
		for range 300 {
			v := 1 + r.Below(n)
			before := h
			old := fmt.Sprint(before)
			switch r.Below(5) {
			case 0, 1:
				h, _ = heap.Bump(h, v)
				if act[v] += by; act[v] > most {
					by = max(1, by/1024)
					for u := range act {
						act[u] /= 1024
					}
				}
			case 2:
				h, _ = heap.Decay(h)
				by += by/20 + 1
			case 3:
				if len(h.L) > 0 {
					h, v, _ = heap.Pop(h)
					delete(queued, v)
				}
			case 4:
				if !queued[v] {
					h, _ = heap.Push(h, v)
					queued[v] = true
				}
			}
			var want []int
			for u := range queued {
				want = append(want, u)
			}
			slices.SortFunc(want, func(a, b int) int { return cmp.Or(act[b]-act[a], a-b) })
			if !same(h, api.Heap{Act: act, L: want, By: by}) || heap.Check(h) != api.OK || fmt.Sprint(before) != old {
				t.Fatal(h, act, want, by)
			}
		}
		// Everything comes out in order, and going in again restores the heap.
		whole, all := h, slices.Clone(h.L)
		for _, want := range all {
			var v int
			if h, v, _ = heap.Pop(h); v != want {
				t.Fatal(v, want)
			}
		}
		for len(all) > 0 {
			i := r.Below(len(all))
			h, _ = heap.Push(h, all[i])
			all = slices.Delete(all, i, i+1)
		}
		if !same(h, whole) {
			t.Fatal(h, whole)
		}
	}
}

func TestLuby(t *testing.T) {
	want := []int{1}
	for k := 2; len(want) < 5000; k *= 2 {
		want = append(append(want, want...), k)
	}
	for i, x := range want {
		if n := heap.Luby(i + 1); n != x {
			t.Fatalf("Luby(%d) = %d, want %d", i+1, n, x)
		}
	}
	for i, x := range map[int]int{0: 0, -1: 0, -far - 1: 0, far: 0, most + 1: 0, most: 1, most - 1: 1 << 39, most - 2: 1 << 38, 1<<39 - 1: 1 << 38, 1 << 39: 1, 1<<39 + 1: 1, 1<<39 + 2: 2} {
		if n := heap.Luby(i); n != x {
			t.Errorf("Luby(%d) = %d, want %d", i, n, x)
		}
	}
}

func TestMemoryIsNotShared(t *testing.T) {
	h := of(1, append(make([]int, 0, 9), 1, 2), 5, 5, 5)
	a, _ := heap.Push(h, 3)
	b, _ := heap.Decay(h)
	c, _, _ := heap.Pop(h)
	d, _ := heap.Bump(h, 3)
	h.L[0], h.L[1], h.Act[1] = 9, 9, 9
	if !same(a, of(1, []int{1, 2, 3}, 5, 5, 5)) || !same(b, of(2, []int{1, 2}, 5, 5, 5)) || !same(c, of(1, []int{2}, 5, 5, 5)) || !same(d, of(1, []int{1, 2}, 5, 5, 6)) || h.L[:3][2] != 0 {
		t.Error("a result shares memory with an argument", a, b, c, d)
	}
}
