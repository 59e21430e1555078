package sample_test

import (
	"reflect"
	"testing"

	"chalkline/api"
	"chalkline/sample"
	"chalkline/school"
	"chalkline/syntax"
	"chalkline/types"
	"chalkline/week"
)

// What the package makes is valid, and the same for the same seed.
func TestSamplesAreValid(t *testing.T) {
	for seed := range 300 {
		r := sample.New(seed)
		s := r.School(r.Below(5), 1+r.Below(4), 1+r.Below(3))
		w := r.Week(s)
		l := r.Rules(r.Below(5), 4)
		if e := school.Check(s); e != api.OK {
			t.Fatal(seed, e)
		}
		if e := week.Check(s, w); e != api.OK {
			t.Fatal(seed, e)
		}
		if e := syntax.Check(l); e != api.OK {
			t.Fatal(seed, e)
		}
		if at, e := types.Rules(l); e != api.OK {
			t.Fatal(seed, at, e)
		}
		q := sample.New(seed)
		if !reflect.DeepEqual(s, q.School(q.Below(5), 1+q.Below(4), 1+q.Below(3))) {
			t.Fatal(seed)
		}
	}
	if e := school.Check(sample.Plain(64, 50, 32, 64, 64)); e != api.OK {
		t.Error(e)
	}
}

// Every kind of operation occurs.
func TestOperations(t *testing.T) {
	seen := map[int]bool{}
	for seed := range 50 {
		r, again := sample.New(seed), sample.New(seed)
		p := api.Planner{Wire: make([]api.Msg, r.Below(7)), Ready: r.Chance(2)}
		again.Below(7)
		again.Chance(2)
		for range 20 {
			d := r.Do(p)
			if !reflect.DeepEqual(d, again.Do(p)) || d.Kind < 1 || d.Kind > 13 {
				t.Fatal(seed, d)
			}
			seen[d.Kind] = true
		}
	}
	if len(seen) != 13 {
		t.Error(seen)
	}
}
