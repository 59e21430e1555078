package proof_test

import (
	"bytes"
	"fmt"
	"strings"
	"testing"

	"chalkline/api"
	"chalkline/proof"
	"chalkline/sample"
)

func TestPutAndGet(t *testing.T) {
	for i, x := range []struct {
		p    []api.Line
		want string
	}{
		{nil, ""}, {[]api.Line{given(1, -2)}, "o 1 -2 0\n"}, {[]api.Line{learnt(), drop(65536, -65536, 65536)}, "l 0\nd 65536 -65536 65536 0\n"}, {[]api.Line{drop(-1), given(), learnt(10)}, "d -1 0\no 0\nl 10 0\n"},
	} {
		b, e := proof.Put(x.p)
		if string(b) != x.want || e != api.OK {
			t.Errorf("%d: %q, %d", i, b, e)
		}
		if p, e := proof.Get(b); fmt.Sprint(p) != fmt.Sprint(x.p) || e != api.OK {
			t.Errorf("%d: %v, %d", i, p, e)
		}
	}
	r := sample.New(3)
	for range 300 {
		var p []api.Line
		for range r.Below(9) {
			p = append(p, api.Line{Kind: 1 + r.Below(3), L: clause(r, 70000)})
		}
		b, e := proof.Put(p)
		x, f := proof.Get(b)
		ok := true
		for _, line := range p {
			for _, lit := range line.L {
				ok = ok && lit >= -65536 && lit <= 65536
			}
		}
		if !ok && e != api.ErrArg || ok && (e != api.OK || f != api.OK || fmt.Sprint(x) != fmt.Sprint(p)) {
			t.Fatal(p, x, e, f)
		}
	}
}

func TestPutErrors(t *testing.T) {
	many := make([]api.Line, 65537)
	for i := range many {
		many[i].Kind = api.DropP
	}
	for i, x := range []struct {
		p []api.Line
		e api.Errno
	}{
		{many, api.ErrBound}, {many[1:], api.OK}, {make([]api.Line, 65537), api.ErrBound}, {make([]api.Line, 65536), api.ErrArg}, {[]api.Line{{}}, api.ErrArg}, {[]api.Line{{Kind: 4}}, api.ErrArg}, {[]api.Line{given(1), {Kind: -1}}, api.ErrArg}, {[]api.Line{given(0)}, api.ErrArg}, {[]api.Line{given(65537)}, api.ErrArg}, {[]api.Line{learnt(-65537)}, api.ErrArg}, {[]api.Line{drop(far)}, api.ErrArg}, {[]api.Line{drop(-far - 1)}, api.ErrArg},
	} {
		if b, e := proof.Put(x.p); e != x.e || e != api.OK && len(b) > 0 {
			t.Errorf("%d: %d bytes, %d", i, len(b), e)
		}
	}
}

func TestGetErrors(t *testing.T) {
	for _, text := range []string{
		"o", "o 0", "o 1 0", "o 1\n", "o\n", "0\n", " 0\n", "\n", "o 0\n\n", "\no 0\n", "x 0\n", "O 0\n", "ol 0\n", "o  0\n", "o 1  0\n", " o 0\n", "o 0 \n", "o\t0\n", "o 0\r\n", "o 1 2\n", "o 0 0\n", "o 1 0 0\n", "o 0 1 0\n", "o +1 0\n", "o -0 0\n", "o 01 0\n", "o 65537 0\n", "o -65537 0\n", "o 1x 0\n", "o - 0\n", "o 99999999999999999999 0\n", "o 0x1 0\n", "o 1_0 0\n", "o 1 00\n", "o 1 -0\n", "o 0\nl 0", "o 0\nl\n", "é 0\n", "  0\n", "o0\n", "o 10\n",
	} {
		if p, e := proof.Get([]byte(text)); e != api.ErrForm || len(p) > 0 {
			t.Errorf("%q: %v, %d", text, p, e)
		}
	}
}

func TestGetOfLongTexts(t *testing.T) {
	many := bytes.Repeat([]byte("l 0\n"), 65537)
	if p, e := proof.Get(many); e != api.ErrBound || len(p) > 0 {
		t.Error(len(p), e)
	}
	if p, e := proof.Get(many[4:]); e != api.OK || len(p) != 65536 {
		t.Error(len(p), e)
	}
	if p, e := proof.Get(append(many, 'x')); e != api.ErrForm || len(p) > 0 {
		t.Error(len(p), e)
	}
	// One line of exactly 2 to the power of 22 bytes, and one that is a byte longer.
	line := "o" + strings.Repeat(" 1", 1<<21-2) + " 0\n"
	long := []byte("o -" + line[2:])
	short := []byte(line[:len(line)-1] + "\n")
	if p, e := proof.Get(short); len(short) != 1<<22 || e != api.OK || len(p) != 1 {
		t.Error(len(short), e)
	}
	if p, e := proof.Get(long); len(long) != 1<<22+1 || e != api.ErrBound || len(p) > 0 {
		t.Error(len(long), e)
	}
	if p, e := proof.Get(bytes.Repeat([]byte("?"), 1<<22+1)); e != api.ErrBound || len(p) > 0 {
		t.Error(e)
	}
}

func TestMemoryIsNotShared(t *testing.T) {
	b := []byte("o 1 2 0\nl 3 0\n")
	p, _ := proof.Get(b)
	clear(b)
	p[0].L = append(p[0].L, 9)
	if fmt.Sprint(p) != "[{1 [1 2 9]} {2 [3]}]" {
		t.Error(p)
	}
}
