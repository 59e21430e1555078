package seal_test

import (
	"bytes"
	"encoding/binary"
	"hash/crc32"
	"math/rand/v2"
	"slices"
	"testing"

	"chalkline/api"
	"chalkline/seal"
)

// stepwise computes the checksum as the promise words it: eight CRC steps a byte.
func stepwise(b []byte) uint32 {
	v := uint32(0xffffffff)
	for _, c := range b {
		v ^= uint32(c)
		for range 8 {
			odd := v%2 == 1
			v >>= 1
			if odd {
				v ^= 0xedb88320
			}
		}
	}
	return 0xffffffff - v
}

func someBytes(r *rand.Rand, n int) []byte {
	b := make([]byte, n)
	for i := range b {
		b[i] = byte(r.Uint32())
	}
	return b
}

// framed writes a frame by the library, with a checksum of its own.
func framed(b []byte) []byte {
	out := binary.BigEndian.AppendUint32(nil, uint32(len(b)))
	out = binary.BigEndian.AppendUint32(out, crc32.ChecksumIEEE(b))
	return append(out, b...)
}

func TestSum(t *testing.T) {
	if x := seal.Sum([]byte("123456789")); x != 0xcbf43926 {
		t.Errorf("Sum(123456789) = %x", x)
	}
	if x := seal.Sum(nil); x != 0 {
		t.Errorf("Sum(nil) = %x", x)
	}
	r := rand.New(rand.NewPCG(1, 2))
	for n := range 600 {
		b := someBytes(r, n)
		if x := seal.Sum(b); x != stepwise(b) || x != crc32.ChecksumIEEE(b) {
			t.Fatalf("Sum(%v) = %x", b, x)
		}
	}
	for c := range 256 {
		if x := seal.Sum([]byte{byte(c)}); x != stepwise([]byte{byte(c)}) {
			t.Errorf("Sum({%d}) = %x", c, x)
		}
	}
}

func TestFrame(t *testing.T) {
	if b, e := seal.Frame(nil); e != api.OK || !bytes.Equal(b, make([]byte, 8)) {
		t.Error(b, e)
	}
	r := rand.New(rand.NewPCG(3, 4))
	for _, n := range []int{1, 2, 255, 256, 257, 4096, 65535, 65536} {
		b := someBytes(r, n)
		if f, e := seal.Frame(b); e != api.OK || !bytes.Equal(f, framed(b)) {
			t.Errorf("Frame of %d bytes: error %d", n, e)
		}
	}
	for _, n := range []int{65537, 70000, 1 << 20} {
		if f, e := seal.Frame(make([]byte, n)); e != api.ErrBound || len(f) != 0 {
			t.Errorf("Frame of %d bytes: %d bytes, error %d", n, len(f), e)
		}
	}
}

func TestOpen(t *testing.T) {
	ab := framed([]byte("ab"))
	long := binary.BigEndian.AppendUint32(nil, 65537)
	long = append(long, make([]byte, 4)...)
	wrongSum := slices.Clone(ab)
	wrongSum[5] ^= 1
	for i, x := range []struct {
		b    []byte
		at   int
		body string
		next int
		e    api.Errno
	}{
		{ab, 0, "ab", 10, api.OK},
		{append([]byte{1, 2, 3}, ab...), 3, "ab", 13, api.OK},
		{append(slices.Clone(ab), ab...), 10, "ab", 20, api.OK},
		{append(slices.Clone(ab), 9), 0, "ab", 10, api.OK},
		{framed(nil), 0, "", 8, api.OK},
		{ab, -1, "", 0, api.ErrArg},
		{ab, 11, "", 0, api.ErrArg},
		{ab, -1 << 63, "", 0, api.ErrArg},
		{ab, 1<<63 - 1, "", 0, api.ErrArg},
		{nil, 0, "", 0, api.ErrShort},
		{nil, 1, "", 0, api.ErrArg},
		{ab, 10, "", 0, api.ErrShort},
		{ab, 3, "", 0, api.ErrShort},
		{ab[:7], 0, "", 0, api.ErrShort},
		{ab[:8], 0, "", 0, api.ErrShort},
		{ab[:9], 0, "", 0, api.ErrShort},
		{wrongSum, 0, "", 0, api.ErrSum},
		{wrongSum[:9], 0, "", 0, api.ErrShort},
		{long, 0, "", 0, api.ErrForm},
		{append(slices.Clone(long), make([]byte, 65537)...), 0, "", 0, api.ErrForm},
		{long[:7], 0, "", 0, api.ErrShort},
		{bytes.Repeat([]byte{255}, 40), 0, "", 0, api.ErrForm},
		{append([]byte{0, 1, 0, 0, 0, 0, 0, 0}, make([]byte, 65535)...), 0, "", 0, api.ErrShort},
		{append([]byte{0, 1, 0, 0, 0, 0, 0, 0}, make([]byte, 65536)...), 0, "", 0, api.ErrSum},
	} {
		body, next, e := seal.Open(x.b, x.at)
		if string(body) != x.body || next != x.next || e != x.e {
			t.Errorf("%d: Open = %q, %d, %d; want %q, %d, %d", i, body, next, e, x.body, x.next, x.e)
		}
	}
}

func TestScan(t *testing.T) {
	r := rand.New(rand.NewPCG(5, 6))
	for range 100 {
		var want [][]byte
		var b []byte
		ends := []int{0}
		for range r.IntN(5) {
			p := someBytes(r, r.IntN(12))
			f, e := seal.Frame(p)
			if e != api.OK {
				t.Fatal(e)
			}
			want, b = append(want, p), append(b, f...)
			ends = append(ends, len(b))
		}
		// Every prefix has exactly the frames that end within it.
		for n := range len(b) + 1 {
			k := 0
			for k+1 < len(ends) && ends[k+1] <= n {
				k++
			}
			l, good := seal.Scan(b[:n])
			if good != ends[k] || !slices.EqualFunc(l, want[:k], bytes.Equal) {
				t.Fatalf("Scan of %d of %d bytes: %d payloads, %d bytes; want %d, %d", n, len(b), len(l), good, k, ends[k])
			}
		}
	}
	bad := framed([]byte("two"))
	bad[8]++
	b := slices.Concat(framed([]byte("one")), bad, framed([]byte("three")))
	if l, good := seal.Scan(b); len(l) != 1 || string(l[0]) != "one" || good != 11 {
		t.Error("a frame behind a damaged one was read", l, good)
	}
	if l, good := seal.Scan(bad); len(l) != 0 || good != 0 {
		t.Error(l, good)
	}
}

func TestScanOfManyFrames(t *testing.T) {
	b := make([]byte, 1<<20)
	if l, good := seal.Scan(b); len(l) != 1<<17 || good != len(b) {
		t.Error(len(l), good)
	}
}

func TestDamageIsDetected(t *testing.T) {
	r := rand.New(rand.NewPCG(7, 8))
	for range 300 {
		p := someBytes(r, 1+r.IntN(40))
		f, _ := seal.Frame(p)
		if body, next, e := seal.Open(f, 0); !bytes.Equal(body, p) || next != len(f) || e != api.OK {
			t.Fatal("a framed payload was not recovered", p, body, next, e)
		}
		at := r.IntN(len(p))
		n := 1 + r.IntN(min(4, len(p)-at))
		broken := slices.Clone(f)
		for i := range n {
			broken[8+at+i] ^= byte(1 + r.IntN(255))
		}
		if _, _, e := seal.Open(broken, 0); e != api.ErrSum {
			t.Fatal("a changed payload was opened", p, at, n, e)
		}
	}
}

func TestNoSharedMemory(t *testing.T) {
	p := []byte("abcd")
	f, _ := seal.Frame(p)
	body, _, _ := seal.Open(f, 0)
	l, _ := seal.Scan(append(slices.Clone(f), f...))
	whole := append(slices.Clone(f), f...)
	m, _ := seal.Scan(whole)
	p[0], f[9] = 'x', 'x'
	for i := range whole {
		whole[i] = 0
	}
	if string(f[8:9]) != "a" || string(body) != "abcd" || string(l[0]) != "abcd" || string(m[1]) != "abcd" {
		t.Error("a result shares memory with an argument")
	}
	m[0] = append(m[0], 'y')
	if string(m[1]) != "abcd" {
		t.Error("two payloads share memory")
	}
	if cap(body) > len(body) {
		body = append(body, 'z')
		if f[len(f)-1] != 'd' {
			t.Error("an append to the payload reached the argument")
		}
	}
}
