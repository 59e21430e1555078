package octet_test

import (
	"bytes"
	"math/big"
	"math/rand/v2"
	"slices"
	"strings"
	"testing"

	"chalkline/api"
	"chalkline/octet"
)

// spelt spells n as the promise does: by division of the zigzag value, with no bit tricks.
func spelt(n int) []byte {
	z := new(big.Int).Mul(big.NewInt(int64(n)), big.NewInt(2))
	if n < 0 {
		z.Neg(z).Sub(z, big.NewInt(1))
	}
	var b []byte
	for {
		low := new(big.Int)
		z.DivMod(z, big.NewInt(128), low)
		if z.Sign() == 0 {
			return append(b, byte(low.Int64()))
		}
		b = append(b, byte(low.Int64())+128)
	}
}

// someInts are the integers at the edges of every length of encoding, and random ones.
func someInts() []int {
	l := []int{0, 1, -1, 1<<63 - 1, -1 << 63, 1 << 40, -(1 << 40)}
	for k := range 63 {
		for d := -2; d <= 2; d++ {
			l = append(l, 1<<k+d, -(1<<k)+d)
		}
	}
	r := rand.New(rand.NewPCG(1, 1))
	for range 500 {
		l = append(l, int(r.Uint64()>>r.IntN(64)), -int(r.Uint64()>>r.IntN(64)))
	}
	return l
}

func TestPutIntSpellsZigzagGroups(t *testing.T) {
	for _, n := range someInts() {
		if b := octet.PutInt(nil, n); !bytes.Equal(b, spelt(n)) {
			t.Fatalf("PutInt(nil, %d) = %v, want %v", n, b, spelt(n))
		}
	}
	for n, want := range map[int][]byte{0: {0}, -1: {1}, 1: {2}, 64: {128, 1}, -64: {127}, -65: {129, 1}, 8191: {254, 127}, 8192: {128, 128, 1}} {
		if b := octet.PutInt([]byte{7, 7}, n); !bytes.Equal(b, append([]byte{7, 7}, want...)) {
			t.Errorf("PutInt({7, 7}, %d) = %v", n, b)
		}
	}
}

func TestGetIntInvertsPutInt(t *testing.T) {
	for _, n := range someInts() {
		b := append(octet.PutInt([]byte{200, 1, 128}, n), 255)
		if x, next, e := octet.GetInt(b, 3); x != n || next != len(b)-1 || e != api.OK {
			t.Fatalf("GetInt of %d = %d, %d, %d", n, x, next, e)
		}
	}
}

func TestGetIntErrors(t *testing.T) {
	full := bytes.Repeat([]byte{255}, 9)
	for _, x := range []struct {
		b  []byte
		at int
		e  api.Errno
	}{
		{nil, 0, api.ErrShort},
		{nil, 1, api.ErrArg},
		{nil, -1, api.ErrArg},
		{[]byte{0}, 2, api.ErrArg},
		{[]byte{0}, 1, api.ErrShort},
		{[]byte{0}, -1 << 63, api.ErrArg},
		{[]byte{0}, 1<<63 - 1, api.ErrArg},
		{[]byte{128}, 0, api.ErrShort},
		{[]byte{2, 255, 255}, 1, api.ErrShort},
		{[]byte{128, 0}, 0, api.ErrForm},
		{[]byte{255, 128, 0}, 0, api.ErrForm},
		{full, 0, api.ErrShort},
		{append(slices.Clone(full), 0), 0, api.ErrForm},
		{append(slices.Clone(full), 1), 0, api.OK},
		{append(slices.Clone(full), 2), 0, api.ErrForm},
		{append(slices.Clone(full), 127), 0, api.ErrForm},
		{append(slices.Clone(full), 128), 0, api.ErrForm},
		{append(slices.Clone(full), 129, 0), 0, api.ErrForm},
	} {
		n, next, e := octet.GetInt(x.b, x.at)
		if e != x.e {
			t.Errorf("GetInt(%v, %d): error %d, want %d", x.b, x.at, e, x.e)
		}
		if e != api.OK && (n != 0 || next != 0) {
			t.Errorf("GetInt(%v, %d) = %d, %d beside an error", x.b, x.at, n, next)
		}
	}
}

func TestPutText(t *testing.T) {
	long := strings.Repeat("x", 64)
	for _, x := range []struct {
		s    string
		want []byte
	}{
		{"", []byte{0}},
		{"ab", []byte{4, 97, 98}},
		{"\x00\xff", []byte{4, 0, 255}},
		{"é", []byte{4, 0xc3, 0xa9}},
		{long, append([]byte{128, 1}, long...)},
	} {
		if b := octet.PutText([]byte{5}, x.s); !bytes.Equal(b, append([]byte{5}, x.want...)) {
			t.Errorf("PutText(%q) = %v", x.s, b)
		}
	}
}

func TestGetText(t *testing.T) {
	for _, x := range []struct {
		b    []byte
		at   int
		most int
		s    string
		next int
		e    api.Errno
	}{
		{[]byte{4, 97, 98}, 0, 2, "ab", 3, api.OK},
		{[]byte{9, 4, 97, 98, 99}, 1, 99, "ab", 4, api.OK},
		{[]byte{4, 97, 98}, 0, 1, "", 0, api.ErrBound},
		{[]byte{4, 97}, 0, 2, "", 0, api.ErrShort},
		{[]byte{4, 97}, 0, 1, "", 0, api.ErrBound},
		{[]byte{4}, 0, 2, "", 0, api.ErrShort},
		{[]byte{1, 97}, 0, 2, "", 0, api.ErrForm},
		{[]byte{1, 97}, 0, -5, "", 0, api.ErrForm},
		{[]byte{0}, 0, 0, "", 1, api.OK},
		{[]byte{0}, 0, -1, "", 0, api.ErrBound},
		{[]byte{128, 0}, 0, 2, "", 0, api.ErrForm},
		{[]byte{128}, 0, 2, "", 0, api.ErrShort},
		{[]byte{0}, 2, 2, "", 0, api.ErrArg},
		{[]byte{0}, -1, 2, "", 0, api.ErrArg},
		{octet.PutInt(nil, 1<<63-1), 0, 1<<63 - 1, "", 0, api.ErrShort},
	} {
		if s, next, e := octet.GetText(x.b, x.at, x.most); s != x.s || next != x.next || e != x.e {
			t.Errorf("GetText(%v, %d, %d) = %q, %d, %d", x.b, x.at, x.most, s, next, e)
		}
	}
}

func TestPutInts(t *testing.T) {
	for _, l := range [][]int{nil, {}, {1, -1}, {0}, {1 << 40, -1 << 63, 1<<63 - 1}, make([]int, 70), someInts()} {
		want := append([]byte{1, 2}, spelt(len(l))...)
		for _, n := range l {
			want = append(want, spelt(n)...)
		}
		if b := octet.PutInts([]byte{1, 2}, l); !bytes.Equal(b, want) {
			t.Errorf("PutInts(%v) = %v, want %v", l, b, want)
		}
	}
	if b := octet.PutInts(nil, []int{1, -1}); !bytes.Equal(b, []byte{4, 2, 1}) {
		t.Error(b)
	}
}

func TestGetInts(t *testing.T) {
	for _, x := range []struct {
		b    []byte
		at   int
		most int
		l    []int
		next int
		e    api.Errno
	}{
		{[]byte{4, 2, 1}, 0, 2, []int{1, -1}, 3, api.OK},
		{[]byte{8, 4, 2, 1, 3}, 1, 2, []int{1, -1}, 4, api.OK},
		{[]byte{0}, 0, 0, nil, 1, api.OK},
		{[]byte{0}, 0, -1, nil, 0, api.ErrBound},
		{[]byte{4, 2, 1}, 0, 1, nil, 0, api.ErrBound},
		{[]byte{4, 2}, 0, 1, nil, 0, api.ErrBound},
		{[]byte{4, 2}, 0, 2, nil, 0, api.ErrShort},
		{[]byte{4, 2, 128}, 0, 2, nil, 0, api.ErrShort},
		{[]byte{4, 2, 128, 0}, 0, 2, nil, 0, api.ErrForm},
		{[]byte{4, 128, 0, 128}, 0, 2, nil, 0, api.ErrForm},
		{[]byte{4, 128}, 0, 2, nil, 0, api.ErrShort},
		{[]byte{3}, 0, 2, nil, 0, api.ErrForm},
		{[]byte{3}, 0, -9, nil, 0, api.ErrForm},
		{[]byte{128, 0}, 0, 2, nil, 0, api.ErrForm},
		{nil, 0, 2, nil, 0, api.ErrShort},
		{nil, 1, 2, nil, 0, api.ErrArg},
		{nil, -1, 2, nil, 0, api.ErrArg},
		{append(octet.PutInt(nil, 1<<60), 0, 0, 0), 0, 1 << 62, nil, 0, api.ErrShort},
	} {
		if l, next, e := octet.GetInts(x.b, x.at, x.most); !slices.Equal(l, x.l) || next != x.next || e != x.e {
			t.Errorf("GetInts(%v, %d, %d) = %v, %d, %d", x.b, x.at, x.most, l, next, e)
		}
	}
}

func TestManyValuesInARow(t *testing.T) {
	r := rand.New(rand.NewPCG(2, 2))
	for range 300 {
		n := int(r.Uint64() >> r.IntN(64))
		s := strings.Repeat("ñ", r.IntN(80))
		l := slices.Repeat([]int{n, -n}, r.IntN(50))
		b := octet.PutInts(octet.PutText(octet.PutInt(nil, n), s), l)
		x, at, e1 := octet.GetInt(b, 0)
		y, at, e2 := octet.GetText(b, at, len(s))
		z, at, e3 := octet.GetInts(b, at, len(l))
		if x != n || y != s || !slices.Equal(z, l) || at != len(b) || e1 != api.OK || e2 != api.OK || e3 != api.OK {
			t.Fatal(n, s, l, x, y, z, at, e1, e2, e3)
		}
	}
}

// Whatever is read was written so and not otherwise: random bytes, mostly near the edges of the format.
func TestReadBytesAreTheWritten(t *testing.T) {
	r := rand.New(rand.NewPCG(3, 3))
	bytesNear := []byte{0, 1, 2, 3, 4, 6, 127, 128, 129, 255}
	for range 20000 {
		b := make([]byte, r.IntN(14))
		for i := range b {
			b[i] = bytesNear[r.IntN(len(bytesNear))]
		}
		if n, next, e := octet.GetInt(b, 0); e == api.OK && !bytes.Equal(octet.PutInt(nil, n), b[:next]) {
			t.Fatal("integer", b, n, next)
		}
		if s, next, e := octet.GetText(b, 0, 9); e == api.OK && !bytes.Equal(octet.PutText(nil, s), b[:next]) {
			t.Fatal("text", b, s, next)
		}
		if l, next, e := octet.GetInts(b, 0, 9); e == api.OK && !bytes.Equal(octet.PutInts(nil, l), b[:next]) {
			t.Fatal("list", b, l, next)
		}
	}
}

func TestArgumentsAreLeftAlone(t *testing.T) {
	for name, put := range map[string]func(b []byte) []byte{
		"PutInt":  func(b []byte) []byte { return octet.PutInt(b, 300) },
		"PutText": func(b []byte) []byte { return octet.PutText(b, "ab") },
		"PutInts": func(b []byte) []byte { return octet.PutInts(b, []int{1, 2}) },
		"Nothing": func(b []byte) []byte { return octet.PutText(b, "") },
	} {
		all := bytes.Repeat([]byte{9}, 40)
		b := all[:3]
		x := put(b)
		if !bytes.Equal(all, bytes.Repeat([]byte{9}, 40)) {
			t.Error(name, "wrote behind its argument", all)
		}
		want := slices.Clone(x)
		y := put(b)
		b[0], y[0], y[len(y)-1] = 77, 78, 79
		if !bytes.Equal(x, want) {
			t.Error(name, "shares memory with its argument or with another result")
		}
	}
}
