package console_test

import (
	"fmt"
	"slices"
	"strings"
	"testing"

	"chalkline/api"
	"chalkline/console"
	"chalkline/planner"
	"chalkline/sample"
	"chalkline/school"
)

const (
	far  = 1<<63 - 1
	most = 1 << 40
)

func show(l ...any) string { return fmt.Sprintf("%+v", l) }

// field writes bytes as one field.
func field(b []byte) string { return fmt.Sprintf(".%x", b) }

// tiny is a school with a field of each kind, and its field.
func tiny() (api.School, string) {
	s := sample.New(3).School(2, 2, 2)
	b, _ := school.Put(s)
	return s, field(b)
}

func edit(kind int, name, slot, text string, off bool) api.Do {
	return api.Do{Kind: api.EditDo, Edit: api.Edit{Kind: kind, Name: name, Slot: slot, Text: []byte(text), Off: off}}
}

func of(kind, n int) api.Do { return api.Do{Kind: kind, N: n} }

// lines are lines as Say writes them, with their operations.
func lines() map[string]api.Do {
	s, word := tiny()
	name := strings.Repeat("z", 64)
	all := map[string]api.Do{
		"school " + word + " .6869":            {Kind: api.SchoolDo, School: s, Text: []byte("hi")},
		"school " + word + " .":                {Kind: api.SchoolDo, School: s},
		"away ann mon1":                        edit(api.AwayE, "ann", "mon1", "", false),
		"back ann mon1":                        edit(api.AwayE, "ann", "mon1", "", true),
		"shut r_1 " + name:                     edit(api.ShutE, "r_1", name, "", false),
		"open 0 _":                             edit(api.ShutE, "0", "_", "", true),
		"add .6869":                            edit(api.AddE, "", "", "hi", false),
		"add .":                                edit(api.AddE, "", "", "", false),
		"change .00ff0a":                       edit(api.ChangeE, "", "", "\x00\xff\n", false),
		"drop hard":                            edit(api.DropE, "hard", "", "", false),
		"freeze 9z":                            edit(api.FreezeE, "9z", "", "", false),
		"free l0":                              edit(api.FreezeE, "l0", "", "", true),
		"solve 5":                              of(api.SolveDo, 5),
		"solve 0":                              of(api.SolveDo, 0),
		"solve 1099511627776":                  of(api.SolveDo, most),
		"publish":                              of(api.PublishDo, 0),
		"sync":                                 of(api.SyncDo, 0),
		"crash 13":                             of(api.CrashDo, 13),
		"why 100":                              of(api.WhyDo, 100),
		"what l0 s1 7":                         {Kind: api.WhatDo, Name: "l0", Slot: "s1", N: 7},
		"what " + name + " what 1099511627775": {Kind: api.WhatDo, Name: name, Slot: "what", N: most - 1},
		"send 1":                               of(api.SendDo, 1),
		"wish 2":                               of(api.WishDo, 2),
		"get 3":                                of(api.GetDo, 3),
		"lose 4":                               of(api.LoseDo, 4),
		"twice 10":                             of(api.TwiceDo, 10),
	}
	return all
}

func TestLines(t *testing.T) {
	kinds := map[int]bool{}
	for line, want := range lines() {
		kinds[want.Kind] = true
		for _, b := range []string{line, "  " + line + " ", strings.ReplaceAll(line, " ", "   ")} {
			if d, e := console.Parse([]byte(b)); e != api.OK || show(d) != show(want) {
				t.Errorf("%q: %s, %d", b, show(d), e)
			}
		}
		if b, e := console.Say(want); e != api.OK || string(b) != line {
			t.Errorf("%s: %q, %d; want %q", show(want), b, e, line)
		}
	}
	if len(kinds) != 13 {
		t.Error("only these kinds have a line:", kinds)
	}
}

// fieldsOf are the numbers of fields of every line.
func fieldsOf() map[string]int {
	return map[string]int{"school": 2, "away": 2, "back": 2, "shut": 2, "open": 2, "add": 1, "change": 1, "drop": 1, "freeze": 1, "free": 1, "solve": 1, "publish": 0, "sync": 0, "crash": 1, "why": 1, "what": 3, "send": 1, "wish": 1, "get": 1, "lose": 1, "twice": 1}
}

func wrong(t *testing.T, line string) {
	t.Helper()
	if d, e := console.Parse([]byte(line)); e != api.ErrLine || show(d) != show(api.Do{}) {
		t.Errorf("%q: %s, %d", line, show(d), e)
	}
}

func TestEveryFieldIsNeededAndChecked(t *testing.T) {
	for line := range lines() {
		words := strings.Split(line, " ")
		if len(words) != 1+fieldsOf()[words[0]] {
			t.Error(line)
		}
		wrong(t, line+" 0")
		wrong(t, line+" .")
		wrong(t, "x"+line)
		wrong(t, strings.ToUpper(line[:1])+line[1:])
		wrong(t, line+"\n")
		wrong(t, "\t"+line)
		for at := range words {
			wrong(t, strings.Join(slices.Delete(slices.Clone(words), at, at+1), " "))
			for _, bad := range []string{"A", "é", "-", "\xff", "x\x00", "1.", "a,b", "a\tb", "{", "`", "/", ":", "^", ".0", ".0G", ".0F", ".x0", "..", ".0 0", words[at] + "\r"} {
				wrong(t, strings.Join(slices.Replace(slices.Clone(words), at, at+1, bad), " "))
			}
		}
	}
}

func TestWrongLines(t *testing.T) {
	s, word := tiny()
	bad, _ := school.Put(s)
	for _, line := range []string{
		"", " ", "   ", "#", "# solve 5", "new 3", "hello", "5", "5 solve", ".6869",
		"solve 00", "solve 05", "solve -1", "solve -0", "solve +5", "solve 1_000", "solve 0x10", "solve 1e3", "solve 5.0", "solve .35", "solve five",
		"solve 1099511627777", "solve 9999999999999", "solve 10995116277760", "solve 18446744073709551616", "solve 18446744073709551621",
		"drop " + strings.Repeat("z", 65), "drop .61", "drop a-b", "drop Ann", "freeze é", "free a\x00",
		"add hi", "add 6869", "add .6", "add .686", "add .6G", "add .6A", "add .g0", "add .6.", "add .+1", "add ",
		"school " + word, "school " + word + " hi", "school " + word[:len(word)-2] + " .", "school " + word + "00 .", "school . .", "school .ff .", "school x .",
		"school " + strings.TrimPrefix(word, ".") + " .", "school " + field(bad[1:]) + " .",
		"what l0 s0 s0", "what l0 s0", "what l0 5", "what L0 s0 5", "what l0 S0 5",
	} {
		wrong(t, line)
	}
}

func TestWhatNoLineSays(t *testing.T) {
	s, _ := tiny()
	silent := func(name string, d api.Do) {
		t.Helper()
		if b, e := console.Say(d); e != api.ErrLine || len(b) > 0 {
			t.Errorf("%s: %q, %d", name, b, e)
		}
	}
	// What a line does not say must be zero.
	for line, d := range lines() {
		words := fieldsOf()[strings.Fields(line)[0]]
		with := func(name string, f func(d *api.Do)) {
			x := d
			f(&x)
			silent(line+" with "+name, x)
		}
		if d.Kind != api.SchoolDo {
			with("a school", func(d *api.Do) { d.School = s })
			with("slots", func(d *api.Do) { d.School.Slots = s.Slots })
			with("rooms", func(d *api.Do) { d.School.Rooms = s.Rooms })
			with("people", func(d *api.Do) { d.School.People = make([]api.Person, 1) })
			with("groups", func(d *api.Do) { d.School.Groups = make([]api.Group, 1) })
			with("slots and rooms", func(d *api.Do) { d.School.Slots, d.School.Rooms = s.Slots, s.Rooms })
			with("slots and people", func(d *api.Do) { d.School.Slots, d.School.People = s.Slots, make([]api.Person, len(s.Slots)) })
			with("slots and groups", func(d *api.Do) { d.School.Slots, d.School.Groups = s.Slots, make([]api.Group, len(s.Slots)) })
			with("slots and lessons", func(d *api.Do) { d.School.Slots, d.School.Lessons = s.Slots, make([]api.Lesson, len(s.Slots)) })
			with("lessons", func(d *api.Do) { d.School.Lessons = s.Lessons })
			with("a text", func(d *api.Do) { d.Text = []byte("hi") })
		}
		if d.Kind != api.EditDo {
			with("an edit kind", func(d *api.Do) { d.Edit.Kind = api.AwayE })
			with("a name to edit", func(d *api.Do) { d.Edit.Name = "ann" })
			with("a slot to edit", func(d *api.Do) { d.Edit.Slot = "ann" })
			with("a text to edit", func(d *api.Do) { d.Edit.Text = []byte("hi") })
			with("off", func(d *api.Do) { d.Edit.Off = true })
		} else {
			with("another edit kind", func(d *api.Do) { d.Edit.Kind = 7 })
			with("no edit kind", func(d *api.Do) { d.Edit.Kind = 0 })
		}
		if d.Edit.Name != "" && words == 1 || len(d.Edit.Text) > 0 {
			with("a slot", func(d *api.Do) { d.Edit.Slot = "mon1" })
		}
		if d.Edit.Kind == api.AddE || d.Edit.Kind == api.ChangeE {
			with("a name", func(d *api.Do) { d.Edit.Name = "ann" })
		}
		if d.Edit.Kind == api.AddE || d.Edit.Kind == api.ChangeE || d.Edit.Kind == api.DropE {
			with("off", func(d *api.Do) { d.Edit.Off = true })
		}
		if d.Edit.Name != "" {
			with("a text", func(d *api.Do) { d.Edit.Text = []byte("hi") })
			with("no name", func(d *api.Do) { d.Edit.Name = "" })
			with("a long name", func(d *api.Do) { d.Edit.Name = strings.Repeat("z", 65) })
			with("a great letter", func(d *api.Do) { d.Edit.Name = "Ann" })
			with("a blank", func(d *api.Do) { d.Edit.Name = "a b" })
		}
		if d.Edit.Slot != "" {
			with("no slot", func(d *api.Do) { d.Edit.Slot = "" })
			with("a wrong slot", func(d *api.Do) { d.Edit.Slot = "mon-1" })
		}
		if d.Kind != api.WhatDo {
			with("a lesson", func(d *api.Do) { d.Name = "l0" })
			with("a slot of a lesson", func(d *api.Do) { d.Slot = "s0" })
		} else {
			with("no lesson", func(d *api.Do) { d.Name = "" })
			with("no slot", func(d *api.Do) { d.Slot = "" })
		}
		if words == 0 || d.Kind == api.SchoolDo || d.Kind == api.EditDo {
			with("a number", func(d *api.Do) { d.N = 1 })
		}
		with("a number below 0", func(d *api.Do) { d.N = -1 })
		with("a number too great", func(d *api.Do) { d.N = most + 1 })
		with("the greatest number", func(d *api.Do) { d.N = far })
	}
	for _, kind := range []int{0, 14, -1, far} {
		silent("an unknown kind", of(kind, 0))
	}
	silent("no school", api.Do{Kind: api.SchoolDo})
	s.Lessons[0].Who = []int{9}
	silent("not a valid school", api.Do{Kind: api.SchoolDo, School: s})
	silent("a big school", api.Do{Kind: api.SchoolDo, School: sample.Plain(65, 1, 1, 0, 0)})
}

func TestEmptyLists(t *testing.T) {
	d := api.Do{Kind: api.SyncDo, Text: []byte{}, School: api.School{Slots: []api.Slot{}}, Edit: api.Edit{Text: []byte{}}}
	if b, e := console.Say(d); e != api.OK || string(b) != "sync" {
		t.Errorf("%q, %d", b, e)
	}
}

func TestShow(t *testing.T) {
	for want, told := range map[string]api.Told{
		"0 0 0\n":                       {},
		"380 0 0\n":                     {E: api.ErrLine},
		"-7 -1 -9223372036854775808\n":  {E: -7, Kind: -1, N: -far - 1},
		"0 1 9223372036854775807 2:3\n": {Kind: 1, N: far, Week: sample.Week(2, 3)},
		"0 1 4 0:0 -1:31 49:-2\n":       {Kind: 1, N: 4, Week: sample.Week(0, 0, -1, 31, 49, -2)},
		"0 2 1\n  a b\n  \n   c  d \n":  {Kind: 2, N: 1, Lines: []string{"a b", "", " c\n\nd\n"}},
		"0 0 0 1:1\n  x\r\ty\n":         {Week: sample.Week(1, 1), Lines: []string{"x\r\ty"}},
	} {
		if got := string(console.Show(told)); got != want {
			t.Errorf("%q, want %q", got, want)
		}
	}
}

// randomDo returns an operation that a line may say.
func randomDo(r *sample.Source) api.Do {
	var all []api.Do
	for _, d := range lines() {
		all = append(all, d)
	}
	slices.SortFunc(all, func(a, b api.Do) int { return strings.Compare(show(a), show(b)) })
	d := all[r.Below(len(all))]
	text := make([]byte, r.Below(5))
	for i := range text {
		text[i] = byte(r.Below(256))
	}
	name := strings.Repeat(string("az09_"[r.Below(5)]), 1+r.Below(64))
	switch {
	case d.Kind == api.SchoolDo:
		d.School, d.Text = r.School(r.Below(5), 1+r.Below(4), 1+r.Below(4)), text
	case d.Kind == api.WhatDo:
		d.Name = name
	case d.Kind == api.EditDo && d.Edit.Name == "":
		d.Edit.Text = text
	case d.Kind == api.EditDo:
		d.Edit.Name = name
	case d.Kind != api.PublishDo && d.Kind != api.SyncDo:
		d.N = r.Below(most + 1)
	}
	return d
}

func TestOperationsAreReadBack(t *testing.T) {
	r := sample.New(1)
	for range 1000 {
		d := randomDo(r)
		b, e := console.Say(d)
		if e != api.OK {
			t.Fatal(show(d), e)
		}
		line := string(b)
		x, e := console.Parse(b)
		if e != api.OK || show(x) != show(d) || string(b) != line {
			t.Fatal(show(d), line, show(x), e)
		}
		for i := range b {
			b[i] = 'x'
		}
		if again, _ := console.Parse([]byte(line)); show(x) != show(again) {
			t.Fatal("an operation shares memory with its line")
		}
	}
}

// script is a script and what it prints.
func script(t *testing.T, in, out string) {
	t.Helper()
	if got := string(console.Play([]byte(in))); got != out {
		t.Errorf("%q prints\n%s\nwant\n%s", in, got, out)
	}
}

func TestPlay(t *testing.T) {
	s := sample.Plain(1, 2, 1, 1, 0)
	s.Slots[1].Day, s.Slots[1].Hour = 0, 1
	b, _ := school.Put(s)
	set := "school " + field(b) + " " + field([]byte("soft soon 3 each l: lesson, s: slot: at(l, s) -> hour(s) = 0;"))
	script(t, "", "")
	script(t, "\n\n  \n# solve 5\n   #\n#new 3 4", "")
	script(t, "new 2", "0 0 0\n")
	script(t, "new 9\nnew 8\n", "1 0 0\n0 0 0\n")
	script(t, "sync", "360 0 0\n")
	script(t, "sync\nhello\nnew 9\nsync\nnew 0\nsync", "360 0 0\n380 0 0\n1 0 0\n360 0 0\n0 0 0\n0 0 0\n")
	script(t, "new\nnew x\nnew 1 2\nnew 03\nnew -1\nnew .\nnew 1099511627777\nnews 1\n", strings.Repeat("380 0 0\n", 8))
	script(t, "new 1099511627776", "1 0 0\n")
	script(t, "new 2\r\nsync\t", "380 0 0\n380 0 0\n")
	script(t, " new   2  \n  sync ", "0 0 0\n0 0 0\n")
	script(t, "new 2\n"+set+"\nsolve 1000000\npublish\nsync\nwish 0\nget 0\nget 0\nget 0\n", "0 0 0\n0 0 1\n0 1 0 0:0\n0 0 1\n0 0 1\n0 0 0\n0 0 0\n0 0 0\n1 0 0\n")
	// A new planner replaces the old one, but only if there is one.
	script(t, "new 1\n"+set+"\nnew 9\nedit\nfreeze l0\nnew 2\nfreeze l0\nwish 1", "0 0 0\n0 0 1\n1 0 0\n380 0 0\n0 0 1\n0 0 0\n360 0 0\n0 0 0\n")
	script(t, "new 1\n"+set+"\nadd "+field([]byte("hard never each l: lesson: false;"))+"\nwhy 1000000\nwhat l0 s0 100\ndrop never\nwhat l0 s1 100", `0 0 0
0 0 1
0 0 2
0 1 1
  these can't be together:
  hard never:
    never (l = l0): false
  without these there is a week:
  hard never:
    never (l = l0): false
  that is all
0 2 1
  hard never:
    never (l = l0): false
0 0 1
0 1 0 1:0
`)
}

func TestScriptsDoWhatTheirOperationsDo(t *testing.T) {
	for seed := range 40 {
		r := sample.New(seed)
		clients := r.Below(4)
		p, _ := planner.New(clients)
		in, want := fmt.Sprintln("new", clients), "0 0 0\n"
		for range 40 {
			d := r.Do(p)
			if r.Chance(4) {
				d = randomDo(r)
			}
			line, e := console.Say(d)
			if e != api.OK {
				continue
			}
			next, told := planner.Do(p, d)
			p = next
			in, want = in+string(line)+"\n", want+string(console.Show(told))
		}
		text := []byte(in)
		if got := string(console.Play(text)); got != want || string(text) != in {
			t.Fatalf("seed %d: %s prints\n%s\nwant\n%s", seed, in, got, want)
		}
	}
}
