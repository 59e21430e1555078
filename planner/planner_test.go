package planner_test

import (
	"fmt"
	"slices"
	"strings"
	"testing"

	"chalkline/api"
	"chalkline/journal"
	"chalkline/planner"
	"chalkline/sample"
)

const (
	far    = 1<<63 - 1
	most   = 1 << 40
	enough = 1 << 30
)

func show(l ...any) string { return fmt.Sprintf("%+v", l) }

// after applies operations that must succeed.
func after(t *testing.T, p api.Planner, l ...api.Do) api.Planner {
	t.Helper()
	for i, d := range l {
		next, told := planner.Do(p, d)
		if told.E != api.OK {
			t.Fatal("operation", i, "reports", told.E)
		}
		p = next
	}
	return p
}

// fails checks that an operation reports an error and changes nothing.
func fails(t *testing.T, name string, p api.Planner, d api.Do, e api.Errno) {
	t.Helper()
	if q, told := planner.Do(p, d); show(told) != show(api.Told{E: e}) || show(q) != show(p) {
		t.Errorf("%s: %s, want %d", name, show(told), e)
	}
}

func set(s api.School, rules string) api.Do {
	return api.Do{Kind: api.SchoolDo, School: s, Text: []byte(rules)}
}

func of(kind, n int) api.Do { return api.Do{Kind: kind, N: n} }

// small is a school with two weeks; its slots are the first hours of a day.
func small() api.School { return hours(sample.Plain(1, 2, 1, 1, 0)) }

// hours puts all slots of a school on one day.
func hours(s api.School) api.School {
	for i := range s.Slots {
		s.Slots[i].Day, s.Slots[i].Hour = 0, i
	}
	return s
}

const early = "soft soon 3 each l: lesson, s: slot: at(l, s) -> hour(s) = 0;"

// ready is a planner with a draft; pending one with a version that waits; done one with a version; second one with a draft after that.
func ready(t *testing.T) api.Planner {
	p, _ := planner.New(2)
	return after(t, p, set(small(), early), of(api.SolveDo, enough))
}

func pending(t *testing.T) api.Planner { return after(t, ready(t), of(api.PublishDo, 0)) }

func done(t *testing.T) api.Planner { return after(t, pending(t), of(api.SyncDo, 0)) }

func second(t *testing.T) api.Planner { return after(t, done(t), of(api.SolveDo, enough)) }

func TestTheExampleOfTheChapter(t *testing.T) {
	p, e := planner.New(2)
	if e != api.OK {
		t.Fatal(e)
	}
	fails(t, "no plan", p, of(api.SolveDo, enough), api.ErrState)
	p = after(t, p, set(sample.Plain(1, 2, 1, 0, 0), ""))
	p, told := planner.Do(p, of(api.SolveDo, enough))
	if told.E != api.OK || told.Kind != api.YesA || told.N != 0 || len(told.Week.L) != 1 {
		t.Error(told)
	}
	p, l := planner.Run(p, []api.Do{of(api.PublishDo, 0), of(api.SyncDo, 0), of(api.WishDo, 0), of(api.GetDo, 0), of(api.GetDo, 0)})
	if want := []api.Told{{N: 1}, {N: 1}, {}, {}, {}}; show(l) != show(want) {
		t.Error(l)
	}
	if want := []api.Client{{No: 1, Week: told.Week}, {}}; show(p.Clients) != show(want) {
		t.Error(p.Clients)
	}
}

func TestNew(t *testing.T) {
	for clients := range 9 {
		p, e := planner.New(clients)
		if e != api.OK || show(p) != show(api.Planner{Clients: make([]api.Client, clients)}) || planner.Check(p) != api.OK {
			t.Error(clients, p, e)
		}
	}
	for _, clients := range []int{-1, 9, far, -far - 1} {
		if p, e := planner.New(clients); e != api.ErrArg || show(p) != show(api.Planner{}) {
			t.Error(clients, p, e)
		}
	}
}

// rewritten returns a planner whose only version is v, also on its disk.
func rewritten(t *testing.T, p api.Planner, v api.Version) api.Planner {
	t.Helper()
	disk, e := journal.Append(api.Disk{}, v)
	if e != api.OK {
		t.Fatal(e)
	}
	p.Disk, _ = journal.Sync(disk)
	p.Versions = []api.Version{v}
	return p
}

func TestValidPlanners(t *testing.T) {
	change := func(p api.Planner, f func(p *api.Planner)) api.Planner {
		f(&p)
		return p
	}
	for name, p := range map[string]api.Planner{
		"zero":    {},
		"ready":   ready(t),
		"pending": pending(t),
		"done":    done(t),
		"second":  second(t),
		"eight clients": change(done(t), func(p *api.Planner) {
			p.Clients = []api.Client{{No: most, Week: sample.Week(-1, far)}, {}, {}, {}, {}, {}, {}, {}}
		}),
		"drafts that ran out": change(ready(t), func(p *api.Planner) {
			p.Draft = api.Repaired{Kind: api.OutA, Some: true, Week: sample.Week(1, 0), Cost: -4}
		}),
		"any cost of a draft":        change(ready(t), func(p *api.Planner) { p.Draft.Some, p.Draft.Cost, p.Draft.Moves, p.Draft.Spent = false, -1, -2, far }),
		"versions of another school": rewritten(t, done(t), api.Version{No: 1, Week: sample.Week(49, 31, 2, 2), Cost: most}),
		"versions without a plan":    change(done(t), func(p *api.Planner) { p.Plan = api.Plan{} }),
		"any wire and any history": change(done(t), func(p *api.Planner) {
			p.Wire, p.Events = []api.Msg{{Kind: -1, To: far}}, []api.Event{{Kind: far}}
		}),
		"a waiting event of any plan": change(pending(t), func(p *api.Planner) {
			p.Wait = []api.Event{{Kind: api.PublishedE, V: p.Wait[0].V, Fix: 7}}
		}),
		"empty lists": {Plan: api.Plan{School: api.School{Slots: []api.Slot{}}, Frozen: []int{}}, Draft: api.Repaired{Week: api.Week{L: []api.Place{}}}, Versions: []api.Version{}, Wait: []api.Event{}},
	} {
		if e := planner.Check(p); e != api.OK {
			t.Errorf("%s: %d", name, e)
		}
	}
}

// wrongPlanners are planners that are not valid, by what is wrong with them.
func wrongPlanners(t *testing.T) map[string]api.Planner {
	all := map[string]api.Planner{}
	wrong := func(name string, p api.Planner, f func(p *api.Planner)) {
		p.Wait, p.Versions, p.Clients = slices.Clone(p.Wait), slices.Clone(p.Versions), slices.Clone(p.Clients)
		f(&p)
		all[name] = p
	}
	wrong("rules only", api.Planner{}, func(p *api.Planner) { p.Plan.Rules = sample.Rules("hard r: true;") })
	wrong("frozen only", api.Planner{}, func(p *api.Planner) { p.Plan.Frozen = []int{0} })
	wrong("rooms only", api.Planner{}, func(p *api.Planner) { p.Plan.School.Rooms = small().Rooms })
	wrong("slots only", api.Planner{}, func(p *api.Planner) { p.Plan.School.Slots = small().Slots })
	wrong("people only", api.Planner{}, func(p *api.Planner) { p.Plan.School.People = small().People })
	wrong("groups only", api.Planner{}, func(p *api.Planner) { p.Plan.School.Groups = []api.Group{{Name: "g"}} })
	wrong("lessons only", api.Planner{}, func(p *api.Planner) { p.Plan.School.Lessons = small().Lessons })
	wrong("slots and rooms", api.Planner{}, func(p *api.Planner) {
		p.Plan.School.Slots, p.Plan.School.Rooms = make([]api.Slot, 1), make([]api.Room, 1)
	})
	for name, f := range map[string]func(p *api.Plan){
		"people":  func(p *api.Plan) { p.School.People = small().People },
		"groups":  func(p *api.Plan) { p.School.Groups = []api.Group{{Name: "g"}} },
		"lessons": func(p *api.Plan) { p.School.Lessons = small().Lessons },
		"rules":   func(p *api.Plan) { p.Rules = sample.Rules("hard r: true;") },
		"frozen":  func(p *api.Plan) { p.Frozen = []int{0} },
	} {
		wrong("rooms and "+name, api.Planner{}, func(p *api.Planner) {
			p.Plan.School.Rooms = small().Rooms
			f(&p.Plan)
		})
	}
	wrong("frozen 1", done(t), func(p *api.Planner) { p.Plan.Frozen = []int{1} })
	wrong("untyped rule", done(t), func(p *api.Planner) { p.Plan.Rules = sample.Rules("hard r: x = y;") })
	wrong("ready without a plan", api.Planner{}, func(p *api.Planner) { p.Ready, p.Draft = true, api.Repaired{Kind: api.YesA} })
	wrong("ready without a draft", ready(t), func(p *api.Planner) { p.Draft = api.Repaired{} })
	wrong("ready with a refusal", ready(t), func(p *api.Planner) { p.Draft.Kind = api.NoA })
	wrong("ready with nothing", ready(t), func(p *api.Planner) { p.Draft.Kind, p.Draft.Some = api.OutA, false })
	wrong("ready with an unknown kind", ready(t), func(p *api.Planner) { p.Draft.Kind = 4 })
	wrong("ready with a short week", ready(t), func(p *api.Planner) { p.Draft.Week = api.Week{} })
	wrong("ready with a wrong week", ready(t), func(p *api.Planner) { p.Draft.Week = sample.Week(2, 0) })
	wrong("ready and pending", pending(t), func(p *api.Planner) { p.Ready, p.Draft = true, ready(t).Draft })
	for i, d := range []api.Repaired{{Kind: 1}, {Some: true}, {Week: sample.Week(0, 0)}, {Cost: 1}, {Moves: -1}, {Spent: 1}} {
		wrong(fmt.Sprint("not ready with draft ", i), done(t), func(p *api.Planner) { p.Draft = d })
	}
	wrong("nine clients", done(t), func(p *api.Planner) { p.Clients = make([]api.Client, 9) })
	wrong("client -1", done(t), func(p *api.Planner) { p.Clients[1].No = -1 })
	wrong("client too far", done(t), func(p *api.Planner) { p.Clients[1].No = most + 1 })
	wrong("torn disk", done(t), func(p *api.Planner) { p.Disk.Safe = p.Disk.Safe[1:] })
	wrong("lost disk", done(t), func(p *api.Planner) { p.Disk = api.Disk{} })
	wrong("lost version", done(t), func(p *api.Planner) { p.Versions = nil })
	wrong("other number", done(t), func(p *api.Planner) { p.Versions[0].No = 2 })
	wrong("other cost", done(t), func(p *api.Planner) { p.Versions[0].Cost = 1 })
	wrong("other flag", done(t), func(p *api.Planner) { p.Versions[0].Best = false })
	wrong("other week", done(t), func(p *api.Planner) { p.Versions[0].Week = sample.Week(5, 5) })
	wrong("other length", done(t), func(p *api.Planner) { p.Versions[0].Week = sample.Week(0, 0, 0, 0) })
	wrong("place off", rewritten(t, done(t), api.Version{No: 1, Week: sample.Week(50, 0)}), func(*api.Planner) {})
	wrong("waits twice", pending(t), func(p *api.Planner) {
		p.Wait = append(p.Wait, p.Wait[0])
		p.Wait[1].V.No = 2
		p.Disk, _ = journal.Append(p.Disk, p.Wait[1].V)
	})
	wrong("does not wait", pending(t), func(p *api.Planner) { p.Wait = nil })
	wrong("waits for nothing", done(t), func(p *api.Planner) { p.Wait = pending(t).Wait })
	wrong("waits for another", pending(t), func(p *api.Planner) { p.Wait[0].V.Cost = 7 })
	wrong("waits for another number", pending(t), func(p *api.Planner) { p.Wait[0].V.No = 2 })
	wrong("waits for an explanation", pending(t), func(p *api.Planner) { p.Wait[0].Kind = api.WhyE })
	wrong("synced already", pending(t), func(p *api.Planner) { p.Disk, _ = journal.Sync(p.Disk) })
	return all
}

func TestWrongPlanners(t *testing.T) {
	for name, p := range wrongPlanners(t) {
		if e := planner.Check(p); e != api.ErrArg {
			t.Errorf("%s: %d", name, e)
		}
		for kind := range 15 {
			fails(t, name, p, of(kind, 0), api.ErrArg)
		}
	}
}

func TestUnknownKinds(t *testing.T) {
	for _, kind := range []int{0, 14, -1, far} {
		fails(t, "an unknown kind", done(t), api.Do{Kind: kind, School: small(), Edit: api.Edit{Kind: api.AddE}}, api.ErrArg)
	}
}

func TestSchoolDo(t *testing.T) {
	empty, _ := planner.New(3)
	big := sample.Plain(65, 1, 1, 0, 0)
	twice := "hard r: true; hard r: true;"
	for _, x := range []struct {
		name string
		p    api.Planner
		d    api.Do
		e    api.Errno
	}{
		{"versions", done(t), set(small(), ""), api.ErrState},
		{"versions and bad text", done(t), set(small(), "?"), api.ErrState},
		{"pending", pending(t), set(small(), ""), api.ErrState},
		{"no word", empty, set(small(), "hard r: ?;"), api.ErrWord},
		{"no rule, no school", empty, set(api.School{}, "hard r"), api.ErrText},
		{"long text", empty, set(small(), strings.Repeat(" ", 16385)), api.ErrBound},
		{"no school", empty, set(api.School{}, ""), api.ErrArg},
		{"big school", empty, set(big, ""), api.ErrBound},
		{"a rule twice", empty, set(small(), twice), api.ErrArg},
		{"big school and a rule without sorts", empty, set(big, "hard r: x = y;"), api.ErrBound},
		{"a rule without sorts", ready(t), set(small(), "hard r: x = y;"), api.ErrVar},
	} {
		fails(t, x.name, x.p, x.d, x.e)
	}
	for _, p := range []api.Planner{empty, ready(t), after(t, ready(t), api.Do{Kind: api.EditDo, Edit: api.Edit{Kind: api.FreezeE, Name: "l0"}})} {
		q, told := planner.Do(p, set(sample.Plain(2, 1, 1, 0, 0), "hard a: true; hard b: false;"))
		want := p
		want.Plan = api.Plan{School: sample.Plain(2, 1, 1, 0, 0), Rules: sample.Rules("hard a: true; hard b: false;")}
		want.Ready, want.Draft = false, api.Repaired{}
		if show(told) != show(api.Told{N: 2}) || show(q) != show(want) {
			t.Error(show(told), show(q))
		}
	}
}

func TestEditDo(t *testing.T) {
	empty, _ := planner.New(1)
	edit := func(kind int, name, slot string, off bool) api.Do {
		return api.Do{Kind: api.EditDo, Edit: api.Edit{Kind: kind, Name: name, Slot: slot, Off: off}}
	}
	fails(t, "no plan", empty, edit(api.FreezeE, "l0", "", false), api.ErrState)
	fails(t, "no plan and no edit", empty, of(api.EditDo, 0), api.ErrState)
	fails(t, "no edit", ready(t), of(api.EditDo, 0), api.ErrArg)
	fails(t, "no lesson", ready(t), edit(api.FreezeE, "zz", "", false), api.ErrName)
	fails(t, "no change", ready(t), edit(api.AwayE, "p0", "s0", true), api.ErrEdit)
	for _, p := range []api.Planner{ready(t), pending(t), second(t)} {
		q, told := planner.Do(p, edit(api.AwayE, "p0", "s1", false))
		want := p
		want.Plan.School = small()
		want.Plan.School.People[0].Away = []int{1}
		want.Ready, want.Draft = false, api.Repaired{}
		if show(told) != show(api.Told{N: 1}) || show(q) != show(want) {
			t.Error(show(told), show(q))
		}
	}
	q, told := planner.Do(ready(t), api.Do{Kind: api.EditDo, Edit: api.Edit{Kind: api.AddE, Text: []byte("hard more: false;")}})
	if told.N != 2 || len(q.Plan.Rules) != 2 {
		t.Error(told, q.Plan)
	}
}
