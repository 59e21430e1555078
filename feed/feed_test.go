package feed_test

import (
	"fmt"
	"slices"
	"testing"

	"chalkline/api"
	"chalkline/feed"
	"chalkline/sample"
	"chalkline/week"
)

const (
	far  = 1<<63 - 1
	most = 1 << 40
)

func show(l ...any) string { return fmt.Sprint(l...) }

// versions returns versions of the given weeks.
func versions(weeks ...api.Week) []api.Version {
	var l []api.Version
	for i, w := range weeks {
		l = append(l, api.Version{No: i + 1, Week: w, Cost: 3 * i, Best: i%2 == 0})
	}
	return l
}

func TestTheExampleOfTheChapter(t *testing.T) {
	l := versions(sample.Week(0, 0), sample.Week(1, 0))
	diff, e := feed.Reply(l, 1, 0)
	if e != api.OK || show(diff) != show(api.Msg{Kind: api.DiffM, From: 1, No: 2, Moves: []api.Move{{To: api.Place{Slot: 1}}}}) {
		t.Error(diff, e)
	}
	whole, e := feed.Reply(l, 0, 0)
	if e != api.OK || show(whole) != show(api.Msg{Kind: api.WholeM, No: 2, Week: sample.Week(1, 0)}) {
		t.Error(whole, e)
	}
	if m, e := feed.Reply(l, 2, 0); e != api.ErrOld || show(m) != show(api.Msg{}) {
		t.Error(m, e)
	}
	c, e := feed.Take(api.Client{No: 1, Week: sample.Week(0, 0)}, diff)
	if e != api.OK || show(c) != show(api.Client{No: 2, Week: sample.Week(1, 0)}) {
		t.Error(c, e)
	}
	if x, e := feed.Take(c, diff); e != api.ErrOld || show(x) != show(api.Client{}) {
		t.Error(x, e)
	}
	if x, e := feed.Take(api.Client{}, diff); e != api.ErrLost || show(x) != show(api.Client{}) {
		t.Error(x, e)
	}
}

func TestCheck(t *testing.T) {
	good := [][]api.Version{
		nil,
		{},
		versions(api.Week{}),
		versions(sample.Week(0, 0, 49, 31), api.Week{}, sample.Week(49, 0)),
		{{No: 1, Cost: most}},
		versions(sample.Week(make([]int, 2*64)...)),
	}
	for i, l := range good {
		if e := feed.Check(l); e != api.OK {
			t.Error(i, e)
		}
	}
	second := func(v api.Version) []api.Version { return append(versions(sample.Week(0, 0)), v) }
	bad := [][]api.Version{
		{{No: 0}},
		{{No: 2}},
		{{No: -1}},
		{{}},
		second(api.Version{No: 1}),
		second(api.Version{No: 3}),
		second(api.Version{No: 2, Cost: -1}),
		second(api.Version{No: 2, Cost: most + 1}),
		second(api.Version{No: 2, Cost: far}),
		second(api.Version{No: 2, Cost: -far - 1}),
		second(api.Version{No: 2, Week: sample.Week(0, 0, 50, 0)}),
		second(api.Version{No: 2, Week: sample.Week(0, 0, -1, 0)}),
		second(api.Version{No: 2, Week: sample.Week(0, 0, 0, 32)}),
		second(api.Version{No: 2, Week: sample.Week(0, 0, 0, -1)}),
		second(api.Version{No: 2, Week: sample.Week(-1, 0, 0, 0)}),
		second(api.Version{No: 2, Week: sample.Week(make([]int, 2*65)...)}),
		{{No: 1, Cost: -1}, {No: 2}},
	}
	for i, l := range bad {
		if e := feed.Check(l); e != api.ErrArg {
			t.Error(i, e)
		}
		// Every other argument is wrong, too, or there is nothing newer.
		for _, no := range []int{0, 1, 5, -1} {
			if m, e := feed.Reply(l, no, 0); e != api.ErrArg || show(m) != show(api.Msg{}) {
				t.Error(i, no, m, e)
			}
		}
	}
}

func TestWish(t *testing.T) {
	for _, no := range []int{0, 1, 7, most, far, -3} {
		for _, to := range []int{0, 7, 8, -1, far} {
			got := feed.Wish(api.Client{No: no, Week: sample.Week(1, 1)}, to)
			if show(got) != show(api.Msg{Kind: api.WishM, To: to, No: no}) {
				t.Error(no, to, got)
			}
		}
	}
}

func TestReply(t *testing.T) {
	a, b, c := sample.Week(0, 0, 3, 1), sample.Week(0, 1, 3, 2), sample.Week(5, 5)
	moves := func(l ...api.Move) []api.Move { return l }
	move := func(lesson, slot, room int) api.Move {
		return api.Move{Lesson: lesson, To: api.Place{Slot: slot, Room: room}}
	}
	for _, x := range []struct {
		l      []api.Version
		no, to int
		want   api.Msg
		e      api.Errno
	}{
		{versions(a, c, b), 1, 7, api.Msg{Kind: api.DiffM, To: 7, From: 1, No: 3, Moves: moves(move(0, 0, 1), move(1, 3, 2))}, api.OK},
		{versions(a, c, b), 2, 1, api.Msg{Kind: api.WholeM, To: 1, No: 3, Week: b}, api.OK},
		{versions(a, c, b), 0, 2, api.Msg{Kind: api.WholeM, To: 2, No: 3, Week: b}, api.OK},
		{versions(a, c, b), 3, 0, api.Msg{}, api.ErrOld},
		{versions(a, c, b), 4, 0, api.Msg{}, api.ErrOld},
		{versions(a, c, b), most, 0, api.Msg{}, api.ErrOld},
		{versions(a, c, b), most + 1, 0, api.Msg{}, api.ErrArg},
		{versions(a, c, b), far, 0, api.Msg{}, api.ErrArg},
		{versions(a, c, b), -1, 0, api.Msg{}, api.ErrArg},
		{versions(a, c, b), 3, 8, api.Msg{}, api.ErrArg},
		{versions(a, c, b), 1, -1, api.Msg{}, api.ErrArg},
		{versions(a, a), 1, 3, api.Msg{Kind: api.DiffM, To: 3, From: 1, No: 2}, api.OK},
		{versions(api.Week{}, api.Week{}), 1, 0, api.Msg{Kind: api.DiffM, From: 1, No: 2}, api.OK},
		{versions(api.Week{}), 0, 0, api.Msg{Kind: api.WholeM, No: 1}, api.OK},
		{nil, 0, 0, api.Msg{}, api.ErrOld},
		{nil, most, 7, api.Msg{}, api.ErrOld},
		{nil, 0, 8, api.Msg{}, api.ErrArg},
	} {
		if got, e := feed.Reply(x.l, x.no, x.to); e != x.e || show(got) != show(x.want) {
			t.Error(show(x), "got", show(got), e)
		}
	}
}

func TestTake(t *testing.T) {
	a := sample.Week(0, 0, 3, 1)
	client := api.Client{No: 3, Week: a}
	diff := func(from, no int, l ...api.Move) api.Msg {
		return api.Msg{Kind: api.DiffM, To: 1, From: from, No: no, Moves: l}
	}
	whole := func(no int, places ...int) api.Msg {
		return api.Msg{Kind: api.WholeM, To: 1, From: 9, No: no, Week: sample.Week(places...), Moves: []api.Move{{Lesson: 1}}}
	}
	first, second, third := api.Move{To: api.Place{Slot: 9, Room: 9}}, api.Move{Lesson: 1, To: api.Place{Slot: far, Room: -1}}, api.Move{Lesson: 2}
	for _, x := range []struct {
		c    api.Client
		m    api.Msg
		want api.Client
		e    api.Errno
	}{
		{client, diff(3, 4, first), api.Client{No: 4, Week: sample.Week(9, 9, 3, 1)}, api.OK},
		{client, diff(3, 8, first, second), api.Client{No: 8, Week: sample.Week(9, 9, far, -1)}, api.OK},
		{client, diff(3, most), api.Client{No: most, Week: a}, api.OK},
		{client, diff(3, 4, second, first), api.Client{}, api.ErrArg},
		{client, diff(3, 4, first, first), api.Client{}, api.ErrArg},
		{client, diff(3, 4, third), api.Client{}, api.ErrArg},
		{client, diff(3, 4, api.Move{Lesson: -1}), api.Client{}, api.ErrArg},
		{client, diff(2, 4, third), api.Client{}, api.ErrLost},
		{client, diff(4, 4, first), api.Client{}, api.ErrLost},
		{client, diff(3, 3, first), api.Client{}, api.ErrOld},
		{client, diff(2, 3, third), api.Client{}, api.ErrOld},
		{client, diff(3, 1, first), api.Client{}, api.ErrOld},
		{client, diff(3, 0, first), api.Client{}, api.ErrArg},
		{client, diff(3, most+1, first), api.Client{}, api.ErrArg},
		{client, diff(3, -far, first), api.Client{}, api.ErrArg},
		{api.Client{}, diff(0, 1), api.Client{No: 1}, api.OK},
		{client, whole(4), api.Client{No: 4}, api.OK},
		{client, whole(4, -7, far), api.Client{No: 4, Week: sample.Week(-7, far)}, api.OK},
		{client, whole(most, 1, 1), api.Client{No: most, Week: sample.Week(1, 1)}, api.OK},
		{client, whole(most+1, 1, 1), api.Client{}, api.ErrArg},
		{client, whole(3, 1, 1), api.Client{}, api.ErrOld},
		{client, whole(1, 1, 1), api.Client{}, api.ErrOld},
		{client, whole(0, 1, 1), api.Client{}, api.ErrArg},
		{api.Client{No: -1}, whole(4, 1, 1), api.Client{}, api.ErrArg},
		{api.Client{No: most + 1}, whole(4, 1, 1), api.Client{}, api.ErrArg},
		{api.Client{No: most}, whole(4, 1, 1), api.Client{}, api.ErrOld},
		{api.Client{No: most}, whole(most, 1, 1), api.Client{}, api.ErrOld},
		{client, api.Msg{Kind: api.WishM, No: 4}, api.Client{}, api.ErrArg},
		{client, api.Msg{Kind: api.WishM, No: 2}, api.Client{}, api.ErrArg},
		{client, api.Msg{No: 4}, api.Client{}, api.ErrArg},
		{client, api.Msg{Kind: 4, No: 4}, api.Client{}, api.ErrArg},
		{client, api.Msg{Kind: -1, No: 4}, api.Client{}, api.ErrArg},
	} {
		if got, e := feed.Take(x.c, x.m); e != x.e || show(got) != show(x.want) {
			t.Error(show(x), "got", show(got), e)
		}
	}
}

// randomWeek returns a week of one of two schools, so that versions differ in their numbers of lessons, too.
func randomWeek(r *sample.Source) api.Week {
	return r.Week(sample.Plain(3+r.Below(10)/9, 2, 2, 0, 0))
}

// channel is a random history: published versions, a client, and the messages on their way.
type channel struct {
	t    *testing.T
	r    *sample.Source
	l    []api.Version
	c    api.Client
	wire []api.Msg
}

// step does one of the things that may happen, and checks what the client shows then.
func (h *channel) step() {
	switch h.r.Below(6) {
	case 0:
		h.l = append(h.l, api.Version{No: len(h.l) + 1, Week: randomWeek(h.r)})
	case 1:
		h.wire = append(h.wire, feed.Wish(h.c, 0))
	case 2:
		if len(h.wire) > 0 {
			at := h.r.Below(len(h.wire))
			h.wire = slices.Delete(slices.Clone(h.wire), at, at+1)
		}
	default:
		if len(h.wire) > 0 {
			h.deliver(h.wire[h.r.Below(len(h.wire))])
		}
	}
	if h.c.No > 0 && show(h.c.Week) != show(h.l[h.c.No-1].Week) {
		h.t.Fatal("the client shows", h.c, "of", h.l)
	}
}

// deliver brings a message to its goal, and leaves it on its way.
func (h *channel) deliver(m api.Msg) {
	if m.Kind == api.WishM {
		reply, e := feed.Reply(h.l, m.No, m.To)
		if e == api.OK {
			h.wire = append(h.wire, reply)
		} else if e != api.ErrOld || m.No != len(h.l) {
			h.t.Fatal("no reply to", m, e)
		}
		return
	}
	c, e := feed.Take(h.c, m)
	switch {
	case e == api.OK:
		if c.No <= h.c.No || c.No != m.No {
			h.t.Fatal("after", m, h.c, "shows", c)
		}
		h.c = c
	case e == api.ErrOld && m.No <= h.c.No, e == api.ErrLost && m.From != h.c.No && m.Kind == api.DiffM:
	default:
		h.t.Fatal(m, h.c, e)
	}
}

func TestRandomChannels(t *testing.T) {
	for seed := range 300 {
		h := channel{t: t, r: sample.New(seed)}
		for range 60 {
			h.step()
		}
		if len(h.l) == 0 || h.c.No == len(h.l) {
			continue
		}
		reply, e := feed.Reply(h.l, feed.Wish(h.c, 0).No, 0)
		if e != api.OK {
			t.Fatal(e)
		}
		if c, e := feed.Take(h.c, reply); e != api.OK || show(c) != show(api.Client{No: len(h.l), Week: h.l[len(h.l)-1].Week}) {
			t.Fatal("after the reply to its wish the client shows", c, e)
		}
	}
}

func TestDifferencesAreThoseOfWeek(t *testing.T) {
	r := sample.New(1)
	for range 200 {
		l := versions(randomWeek(r), randomWeek(r), randomWeek(r))
		no := 1 + r.Below(2)
		moves, e := week.Diff(l[no-1].Week, l[2].Week)
		want := api.Msg{Kind: api.DiffM, To: 5, From: no, No: 3, Moves: moves}
		if e != api.OK {
			want = api.Msg{Kind: api.WholeM, To: 5, No: 3, Week: l[2].Week}
		}
		if got, e := feed.Reply(l, no, 5); e != api.OK || show(got) != show(want) {
			t.Fatal(show(got), e, "want", show(want))
		}
	}
}

func TestNothingIsShared(t *testing.T) {
	l := versions(sample.Week(0, 0, 1, 1), sample.Week(0, 0, 2, 1))
	c := api.Client{No: 1, Week: sample.Week(0, 0, 1, 1)}
	whole, _ := feed.Reply(l, 0, 0)
	diff, _ := feed.Reply(l, 1, 0)
	a, _ := feed.Take(c, whole)
	b, _ := feed.Take(c, diff)
	empty, _ := feed.Take(c, api.Msg{Kind: api.DiffM, From: 1, No: 2})
	if show(l) != show(versions(sample.Week(0, 0, 1, 1), sample.Week(0, 0, 2, 1))) || show(c) != show(api.Client{No: 1, Week: sample.Week(0, 0, 1, 1)}) {
		t.Error("an argument was changed")
	}
	messages, clients := show(whole, diff), show(a, b, empty)
	for _, w := range []api.Week{l[0].Week, l[1].Week, c.Week} {
		w.L[0].Slot, w.L[1].Slot = 40, 41
	}
	if show(whole, diff) != messages {
		t.Error("a message shares memory with a version")
	}
	whole.Week.L[0].Slot, diff.Moves[0].To.Slot = 42, 43
	if show(a, b, empty) != clients {
		t.Error("a client shares memory with an argument")
	}
}
