package cnf_test

import (
	"bytes"
	"fmt"
	"strings"
	"testing"

	"chalkline/api"
	"chalkline/cnf"
	"chalkline/sample"
)

func TestPutAndGet(t *testing.T) {
	for i, x := range []struct {
		c    api.Cnf
		want string
	}{
		{api.Cnf{}, "p cnf 0 0\n"}, {api.Cnf{N: 3, L: [][]int{{1, -2}, {}}}, "p cnf 3 2\n1 -2 0\n0\n"}, {api.Cnf{N: 65536, L: [][]int{{65536, -65536, 65536}}}, "p cnf 65536 1\n65536 -65536 65536 0\n"}, {api.Cnf{N: 10, L: [][]int{{-10}, {10}}}, "p cnf 10 2\n-10 0\n10 0\n"},
	} {
		b, e := cnf.Put(x.c)
		if string(b) != x.want || e != api.OK {
			t.Errorf("%d: %q, %d", i, b, e)
		}
		if c, e := cnf.Get(b); show(c) != show(x.c) || e != api.OK {
			t.Errorf("%d: %v, %d", i, c, e)
		}
	}
	r := sample.New(2)
	for range 300 {
		c := api.Cnf{N: 9 + r.Below(100)}
		for range r.Below(9) {
			c.L = append(c.L, clause(r, 9))
		}
		b, e := cnf.Put(c)
		x, f := cnf.Get(b)
		if e != api.OK || f != api.OK || show(x) != show(c) {
			t.Fatal(c, x, e, f)
		}
	}
}

func TestGet(t *testing.T) {
	for text, want := range map[string]string{
		"p cnf 3 2 1 -2 0 0": "3 2 [[1 -2] []]", "p cnf 3 2\n1 -2\n0 0": "3 2 [[1 -2] []]", "p  cnf\t3\r2\n\n1\t-2 0\r\n0\n": "3 2 [[1 -2] []]", "\n p cnf 0 0 ": "0 0 []",
		"c a comment\np cnf 1 1\nc 1 2 3\n1\nc\n0\nc": "1 1 [[1]]", "p cnf 1 1\n1 0\ncnf": "1 1 [[1]]", "c\n\nc c\np cnf 0 0": "0 0 []", "p cnf 2 1\n1 1 2 -1 0": "2 1 [[1 1 2 -1]]",
		"p cnf 0 3 0 0 0": "0 3 [[] [] []]", "p cnf 65536 1 65536 0": "65536 1 [[65536]]", "p\n cnf 1\n0": "1 0 []",
	} {
		if c, e := cnf.Get([]byte(text)); show(c) != want || e != api.OK {
			t.Errorf("%q: %s, %d", text, show(c), e)
		}
	}
}

func TestGetErrors(t *testing.T) {
	for text, want := range map[string]api.Errno{
		"": api.ErrForm, "c": api.ErrForm, "p": api.ErrForm, "p cnf": api.ErrForm, "p cnf 1": api.ErrForm, "cnf 1 1 1 0": api.ErrForm, "p CNF 1 1 1 0": api.ErrForm, "pcnf 1 1 1 0": api.ErrForm, "q cnf 1 1 1 0": api.ErrForm, "p\ncnf 1 1 1 0": api.ErrForm, "p cnf x 1 1 0": api.ErrForm, "p cnf 1 x 1 0": api.ErrForm,
		"p cnf -1 1 1 0": api.ErrForm, "p cnf 1 -1 1 0": api.ErrForm, "p cnf -0 1 0": api.ErrForm, "p cnf 1 1 1": api.ErrForm, "p cnf 1 1": api.ErrForm, "p cnf 1 0 0": api.ErrForm, "p cnf 1 0 1": api.ErrForm, "p cnf 1 2 1 0": api.ErrForm, "p cnf 1 1 1 0 1 0": api.ErrForm, "p cnf 1 1 1 0 1": api.ErrForm, "p cnf 1 1 1 -0": api.ErrForm,
		"p cnf 1 1 +1 0": api.ErrForm, "p cnf 1 1 01 0": api.ErrForm, "p cnf 1 1 1 00": api.ErrForm, "p cnf 01 1 1 0": api.ErrForm, "p cnf 1 1 1. 0": api.ErrForm, "p cnf 1 1 --1 0": api.ErrForm, "p cnf 1 1 - 0": api.ErrForm, "p cnf 1 1 1_0 0": api.ErrForm, "p cnf 1 1 0x1 0": api.ErrForm, "p cnf 1 1 1 0 c": api.ErrForm, "p cnf 1 1 1 0\n c": api.ErrForm, "p cnf 1 1 1\v0": api.ErrForm, "p cnf 1 1 1\u00a00": api.ErrForm, "p cnf 1 1 1\f0": api.ErrForm, "p cnf 1 1 -01 0": api.ErrForm,
		"p cnf 1 1 2 0": api.ErrArg, "p cnf 1 1 -2 0": api.ErrArg, "p cnf 0 1 1 0": api.ErrArg, "p cnf 1 1 9999999999 0": api.ErrArg, "p cnf 1 1 -9999999999 0": api.ErrArg, "p cnf 1 1 10000000000 0": api.ErrForm, "p cnf 1 1 -10000000000 0": api.ErrForm, "p cnf 1 1 99999999999999999999 0": api.ErrForm,
		"p cnf 65537 -1": api.ErrForm, "p cnf -1 65537": api.ErrForm, "p cnf 65537 0": api.ErrBound, "p cnf 65536 0": api.OK, "p cnf 0 65537": api.ErrBound, "p cnf 0 65536": api.ErrForm, "p cnf 9999999999 0": api.ErrBound, "p cnf 10000000000 0": api.ErrForm, "p cnf 65537 0 x": api.ErrForm, "p cnf 65537 0 1": api.ErrBound, "p cnf 1 65537 2": api.ErrBound, "p cnf 1 2 2 0": api.ErrForm, "p cnf 1 1 2": api.ErrForm, "p cnf 1 1 1 0\x00": api.ErrForm, "p cnf 1 1 \xff 0": api.ErrForm,
	} {
		if c, e := cnf.Get([]byte(text)); e != want || e != api.OK && show(c) != show(api.Cnf{}) {
			t.Errorf("%q: %s, %d, want %d", text, show(c), e, want)
		}
	}
}

func TestGetOfLongTexts(t *testing.T) {
	start := "p cnf 1 0\n"
	blank := strings.Repeat(" ", 1<<22-len(start))
	if c, e := cnf.Get([]byte(start + blank)); e != api.OK || c.N != 1 {
		t.Error(e)
	}
	if c, e := cnf.Get([]byte(start + blank + " ")); e != api.ErrBound || c.N != 0 {
		t.Error(e)
	}
	if _, e := cnf.Get([]byte("x" + start + blank)); e != api.ErrBound {
		t.Error("the length comes first:", e)
	}
	text := []byte("p cnf 5 65536\n" + strings.Repeat("5 -4 0\n", 65536))
	c, e := cnf.Get(text)
	if e != api.OK || len(c.L) != 65536 || fmt.Sprint(c.L[65535]) != "[5 -4]" {
		t.Error(len(c.L), e)
	}
	if b, e := cnf.Put(c); e != api.OK || !bytes.Equal(b, text) {
		t.Error(e)
	}
	clear(text)
	if fmt.Sprint(c.L[7]) != "[5 -4]" {
		t.Error("clauses share memory with the text")
	}
	c.L[0] = append(c.L[0], 9)
	if fmt.Sprint(c.L[1]) != "[5 -4]" {
		t.Error("clauses share memory")
	}
}
