package journal_test

import (
	"bytes"
	"encoding/binary"
	"fmt"
	"hash/crc32"
	"slices"
	"testing"

	"chalkline/api"
	"chalkline/journal"
	"chalkline/sample"
)

const (
	far  = 1<<63 - 1
	most = 1 << 40
)

func version(no, cost int, best bool, places ...int) api.Version {
	return api.Version{No: no, Week: sample.Week(places...), Cost: cost, Best: best}
}

// frame spells the frame of a payload.
func frame(payload []byte) []byte {
	b := binary.BigEndian.AppendUint32(nil, uint32(len(payload)))
	return append(binary.BigEndian.AppendUint32(b, crc32.ChecksumIEEE(payload)), payload...)
}

// record spells the record of a version, with any number for the flag.
func record(v api.Version, flag int) []byte {
	l := []int{v.No, len(v.Week.L)}
	for _, p := range v.Week.L {
		l = append(l, p.Slot, p.Room)
	}
	var b []byte
	for _, n := range append(l, v.Cost, flag) {
		b = binary.AppendVarint(b, int64(n))
	}
	return b
}

// framed spells the frames of versions.
func framed(l ...api.Version) []byte {
	var b []byte
	for _, v := range l {
		flag := 0
		if v.Best {
			flag = 1
		}
		b = append(b, frame(record(v, flag))...)
	}
	return b
}

func show(l ...any) string { return fmt.Sprint(l...) }

func sameDisk(a, b api.Disk) bool { return bytes.Equal(a.Safe, b.Safe) && bytes.Equal(a.Open, b.Open) }

// three are versions that follow each other.
func three() []api.Version {
	return []api.Version{version(1, 0, true, 2, 0), version(2, most, false), version(3, 7, true, -5, far, far, -far-1, 0, 0)}
}

func TestTheExampleOfTheChapter(t *testing.T) {
	d, e := journal.Append(api.Disk{}, version(1, 0, true, 2, 0))
	if e != api.OK || len(d.Safe) > 0 || len(d.Open) != 14 || !bytes.Equal(d.Open[8:], []byte{2, 2, 4, 0, 0, 2}) {
		t.Error(d, e)
	}
	if x, e := journal.Crash(d, 13); e != api.OK || len(x.Safe)+len(x.Open) > 0 {
		t.Error(x, e)
	}
	if x, e := journal.Crash(d, 14); e != api.OK || !sameDisk(x, api.Disk{Safe: d.Open}) {
		t.Error(x, e)
	}
}

func TestCheckAndRead(t *testing.T) {
	l := three()
	for cut := range 4 {
		d := api.Disk{Safe: framed(l[:cut]...), Open: framed(l[cut:]...)}
		safe, open, e := journal.Read(d)
		if e != api.OK || show(safe, open) != show(l[:cut], l[cut:]) || journal.Check(d) != api.OK {
			t.Error(cut, safe, open, e)
		}
	}
	if safe, open, e := journal.Read(api.Disk{}); e != api.OK || len(safe)+len(open) > 0 {
		t.Error(e)
	}
}

// torn are disks that are not valid, with the error.
func torn() map[string]struct {
	d api.Disk
	e api.Errno
} {
	l := three()
	all := framed(l...)
	one := framed(l[0])
	damaged := slices.Clone(all)
	damaged[9]++
	places := make([]int, 130)
	bad := func(v api.Version, flag int) api.Disk { return api.Disk{Safe: frame(record(v, flag))} }
	return map[string]struct {
		d api.Disk
		e api.Errno
	}{
		"part of a frame":      {api.Disk{Safe: all[:len(all)-1]}, api.ErrTorn},
		"part of an open one":  {api.Disk{Safe: one, Open: framed(l[1])[:9]}, api.ErrTorn},
		"damaged":              {api.Disk{Safe: damaged}, api.ErrTorn},
		"damaged and open":     {api.Disk{Open: damaged}, api.ErrTorn},
		"starts with 2":        {api.Disk{Safe: framed(l[1])}, api.ErrTorn},
		"open starts with 2":   {api.Disk{Open: framed(l[1])}, api.ErrTorn},
		"1 twice":              {api.Disk{Safe: one, Open: one}, api.ErrTorn},
		"1 and 3":              {api.Disk{Safe: framed(l[0], l[2])}, api.ErrTorn},
		"1 and open 3":         {api.Disk{Safe: one, Open: framed(l[2])}, api.ErrTorn},
		"number 0":             {bad(version(0, 0, false), 0), api.ErrTorn},
		"cost -1":              {bad(version(1, -1, false), 0), api.ErrTorn},
		"great cost":           {bad(version(1, most+1, false), 0), api.ErrTorn},
		"flag 2":               {bad(version(1, 0, false), 2), api.ErrTorn},
		"flag -1":              {bad(version(1, 0, false), -1), api.ErrTorn},
		"65 places":            {bad(version(1, 0, false, places...), 0), api.ErrTorn},
		"bytes left over":      {api.Disk{Safe: frame(append(record(l[0], 1), 0))}, api.ErrTorn},
		"record too short":     {api.Disk{Safe: frame(record(l[0], 1)[:5])}, api.ErrTorn},
		"empty record":         {api.Disk{Safe: frame(nil)}, api.ErrTorn},
		"not canonical":        {api.Disk{Safe: frame([]byte{2, 0, 128, 0, 0})}, api.ErrTorn},
		"too long":             {api.Disk{Safe: make([]byte, 1<<20+1)}, api.ErrBound},
		"too long together":    {api.Disk{Safe: one, Open: make([]byte, 1<<20)}, api.ErrBound},
		"as long as it can be": {api.Disk{Safe: one, Open: make([]byte, 1<<20-len(one))}, api.ErrTorn},
	}
}

func TestTornDisks(t *testing.T) {
	for name, x := range torn() {
		if e := journal.Check(x.d); e != x.e {
			t.Errorf("%s: %d, want %d", name, e, x.e)
		}
		safe, open, e1 := journal.Read(x.d)
		a, e2 := journal.Append(x.d, version(9, -1, false))
		b, e3 := journal.Sync(x.d)
		c, e4 := journal.Crash(x.d, -1)
		if e1 != x.e || e2 != x.e || e3 != x.e || e4 != x.e || len(safe)+len(open) > 0 || !sameDisk(a, api.Disk{}) || !sameDisk(b, api.Disk{}) || !sameDisk(c, api.Disk{}) {
			t.Errorf("%s: %d, %d, %d, %d", name, e1, e2, e3, e4)
		}
	}
}

func TestAppend(t *testing.T) {
	l := three()
	var d api.Disk
	for i, v := range l {
		x, e := journal.Append(d, v)
		if e != api.OK || !sameDisk(x, api.Disk{Safe: d.Safe, Open: append(slices.Clone(d.Open), framed(v)...)}) {
			t.Fatal(i, x, e)
		}
		d = x
		if i == 0 {
			d, _ = journal.Sync(d)
		}
	}
	if safe, open, e := journal.Read(d); e != api.OK || show(safe, open) != show(l[:1], l[1:]) {
		t.Error(safe, open, e)
	}
	places := make([]int, 130)
	for i, v := range []api.Version{version(0, 0, true), version(3, 0, true), version(5, 0, true), version(-1, 0, true), version(far, 0, true), version(4, -1, true), version(4, most+1, true), version(4, far, true), version(4, 0, true, places...)} {
		if x, e := journal.Append(d, v); e != api.ErrArg || !sameDisk(x, api.Disk{}) {
			t.Error(i, e)
		}
	}
	if _, e := journal.Append(d, version(4, most, false, places[:128]...)); e != api.OK {
		t.Error(e)
	}
	for no, want := range map[int]api.Errno{1: api.OK, 2: api.ErrArg, 0: api.ErrArg} {
		if _, e := journal.Append(api.Disk{}, version(no, 0, false)); e != want {
			t.Error(no, e)
		}
	}
}

// sized returns a version whose frame has the given size.
func sized(t *testing.T, no, size int) api.Version {
	for places := range 65 {
		for _, cost := range []int{0, 64} {
			if v := version(no, cost, false, make([]int, 2*places)...); len(framed(v)) == size {
				return v
			}
		}
	}
	t.Fatal("no version of this size:", size)
	return api.Version{}
}

func TestFullDisk(t *testing.T) {
	var l []api.Version
	var all []byte
	for 1<<20-len(all) > 100 {
		l = append(l, version(len(l)+1, 0, false))
		all = append(all, framed(l[len(l)-1])...)
	}
	room := 1<<20 - len(all)
	cut := len(framed(l[:len(l)/2]...))
	d := api.Disk{Safe: all[:cut:cut], Open: all[cut:]}
	if x, e := journal.Append(d, sized(t, len(l)+1, room+1)); e != api.ErrBound || !sameDisk(x, api.Disk{}) {
		t.Error(e)
	}
	if _, e := journal.Append(d, version(len(l), -1, false, make([]int, 2*64)...)); e != api.ErrArg {
		t.Error("a wrong version for a full disk:", e)
	}
	last := sized(t, len(l)+1, room)
	full, e := journal.Append(d, last)
	if e != api.OK || len(full.Safe)+len(full.Open) != 1<<20 {
		t.Fatal(e)
	}
	safe, open, e := journal.Read(full)
	if e != api.OK || show(append(safe, open...)) != show(append(l, last)) {
		t.Error("a full disk is read wrongly:", e)
	}
	if x, e := journal.Sync(full); e != api.OK || len(x.Safe) != 1<<20 {
		t.Error(e)
	}
	if _, e := journal.Append(full, version(len(l)+2, 0, false)); e != api.ErrBound {
		t.Error(e)
	}
}

func TestSync(t *testing.T) {
	l := three()
	for cut := range 4 {
		d := api.Disk{Safe: framed(l[:cut]...), Open: framed(l[cut:]...)}
		if x, e := journal.Sync(d); e != api.OK || !sameDisk(x, api.Disk{Safe: framed(l...)}) {
			t.Error(cut, x, e)
		}
	}
	if x, e := journal.Sync(api.Disk{}); e != api.OK || !sameDisk(x, api.Disk{}) {
		t.Error(x, e)
	}
}

func TestCrash(t *testing.T) {
	l := three()
	for cut := range 4 {
		d := api.Disk{Safe: framed(l[:cut]...), Open: framed(l[cut:]...)}
		for keep := range len(d.Open) + 2 {
			kept := cut
			for kept < 3 && len(framed(l[cut:kept+1]...)) <= keep {
				kept++
			}
			if x, e := journal.Crash(d, keep); e != api.OK || !sameDisk(x, api.Disk{Safe: framed(l[:kept]...)}) {
				t.Error(cut, keep, x, e)
			}
		}
		if x, e := journal.Crash(d, far); e != api.OK || !sameDisk(x, api.Disk{Safe: framed(l...)}) {
			t.Error(cut, x, e)
		}
		for _, keep := range []int{-1, -far - 1} {
			if x, e := journal.Crash(d, keep); e != api.ErrArg || !sameDisk(x, api.Disk{}) {
				t.Error(keep, x, e)
			}
		}
	}
}

// randomVersion returns a storable version with the given number.
func randomVersion(r *sample.Source, no int) api.Version {
	places := make([]int, 2*r.Below(4))
	for i := range places {
		places[i] = r.Below(1000) - 500
	}
	return version(no, r.Below(100000), r.Chance(50), places...)
}

// play goes through one random history and checks it against lists of versions.
func play(t *testing.T, r *sample.Source) {
	var d api.Disk
	var safe, open []api.Version
	for range 30 {
		e := api.OK
		switch r.Below(4) {
		case 0, 1:
			v := randomVersion(r, len(safe)+len(open)+1)
			open = append(open, v)
			d, e = journal.Append(d, v)
		case 2:
			safe, open = append(safe, open...), nil
			d, e = journal.Sync(d)
		case 3:
			keep := r.Below(len(d.Open) + 3)
			kept := 0
			for kept < len(open) && len(framed(open[:kept+1]...)) <= keep {
				kept++
			}
			safe, open = append(safe, open[:kept]...), nil
			d, e = journal.Crash(d, keep)
		}
		if e != api.OK {
			t.Fatal(e)
		}
		gotSafe, gotOpen, e := journal.Read(d)
		if e != api.OK || show(gotSafe, gotOpen) != show(safe, open) {
			t.Fatal(gotSafe, gotOpen, e, "want", safe, open)
		}
	}
}

func TestRandomHistories(t *testing.T) {
	for seed := range 100 {
		play(t, sample.New(seed))
	}
}

func TestArgumentsAreLeftAlone(t *testing.T) {
	l := three()
	spare := func(b []byte) []byte { return append(slices.Clone(b), 1, 2, 3, 4)[:len(b)] }
	d := api.Disk{Safe: spare(framed(l[0])), Open: spare(framed(l[1]))}
	safe, open := slices.Clone(d.Safe[:len(d.Safe)+4]), slices.Clone(d.Open[:len(d.Open)+4])
	untouched := func() {
		if !bytes.Equal(d.Safe[:len(d.Safe)+4], safe) || !bytes.Equal(d.Open[:len(d.Open)+4], open) {
			t.Error("an argument was changed")
		}
	}
	a, _ := journal.Append(d, l[2])
	b, _ := journal.Sync(d)
	c, _ := journal.Crash(d, len(d.Open))
	c0, _ := journal.Crash(d, 0)
	first, second, _ := journal.Read(d)
	untouched()
	want := show(a, b, c, c0, first, second)
	for _, x := range [][]byte{d.Safe, d.Open} {
		for i := range x {
			x[i] = 255
		}
	}
	l[2].Week.L[0].Slot = 44
	if show(a, b, c, c0, first, second) != want {
		t.Error("a result shares memory with an argument")
	}
}
