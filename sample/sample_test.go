package sample_test

import (
	"reflect"
	"testing"

	"chalkline/api"
	"chalkline/sample"
	"chalkline/school"
	"chalkline/syntax"
	"chalkline/types"
	"chalkline/week"
)

// What the package makes is valid, and the same for the same seed.
func TestSamplesAreValid(t *testing.T) {
	for seed := range 300 {
		r := sample.New(seed)
		s := r.School(r.Below(5), 1+r.Below(4), 1+r.Below(3))
		w := r.Week(s)
		l := r.Rules(r.Below(5), 4)
		if e := school.Check(s); e != api.OK {
			t.Fatal(seed, e)
		}
		if e := week.Check(s, w); e != api.OK {
			t.Fatal(seed, e)
		}
		if e := syntax.Check(l); e != api.OK {
			t.Fatal(seed, e)
		}
		if at, e := types.Rules(l); e != api.OK {
			t.Fatal(seed, at, e)
		}
		q := sample.New(seed)
		if !reflect.DeepEqual(s, q.School(q.Below(5), 1+q.Below(4), 1+q.Below(3))) {
			t.Fatal(seed)
		}
	}
	if e := school.Check(sample.Plain(64, 50, 32, 64, 64)); e != api.OK {
		t.Error(e)
	}
}
