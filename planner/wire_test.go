package planner_test

import (
	"testing"

	"chalkline/api"
	"chalkline/feed"
	"chalkline/planner"
	"chalkline/sample"
)

// two is a planner with two versions, of which client 0 shows the first, and client 1 none.
func two(t *testing.T) api.Planner {
	p := after(t, done(t), of(api.SendDo, 0), of(api.GetDo, 0))
	return after(t, p, rule(api.ChangeE, "soft soon 3 each l: lesson, s: slot: at(l, s) -> hour(s) = 1;"), of(api.SolveDo, enough), of(api.PublishDo, 0), of(api.SyncDo, 0))
}

func whole(to int) api.Msg {
	return api.Msg{Kind: api.WholeM, To: to, No: 2, Week: sample.Week(1, 0)}
}

func diff() api.Msg {
	return api.Msg{Kind: api.DiffM, From: 1, No: 2, Moves: []api.Move{{To: api.Place{Slot: 1}}}}
}

func wish(to, no int) api.Msg { return api.Msg{Kind: api.WishM, To: to, No: no} }

// on returns a planner with other messages in transit.
func on(p api.Planner, wire ...api.Msg) api.Planner {
	p.Wire = wire
	return p
}

// shows returns a planner of which a client has just shown a version.
func shows(p api.Planner, client int, c api.Client, v api.Version) api.Planner {
	p.Clients = append([]api.Client{}, p.Clients...)
	p.Clients[client] = c
	p.Events = append(append([]api.Event{}, p.Events...), api.Event{Kind: api.ShownE, Client: client, V: v})
	return p
}

func TestWrongIndices(t *testing.T) {
	p := on(two(t), diff(), wish(1, 0), whole(1))
	for kind, bad := range map[int][]int{
		api.SendDo: {-1, 2, far, -far - 1}, api.WishDo: {-1, 2, far, -far - 1},
		api.GetDo: {-1, 3, far, -far - 1}, api.TwiceDo: {-1, 3, far, -far - 1}, api.LoseDo: {-1, 3, far, -far - 1},
	} {
		for _, n := range bad {
			fails(t, "a wrong index", p, of(kind, n), api.ErrArg)
		}
	}
	alone, _ := planner.New(0)
	for _, kind := range []int{api.SendDo, api.WishDo, api.GetDo, api.TwiceDo, api.LoseDo} {
		fails(t, "no client and no message", alone, of(kind, 0), api.ErrArg)
	}
}

func TestSendDo(t *testing.T) {
	p := two(t)
	for n := range 2 {
		does(t, "the newest version", p, of(api.SendDo, n), on(p, whole(n)), api.Told{})
	}
	does(t, "behind another message", on(p, diff()), of(api.SendDo, 1), on(p, diff(), whole(1)), api.Told{})
	fails(t, "no version", ready(t), of(api.SendDo, 1), api.ErrOld)
	fails(t, "no version yet", pending(t), of(api.SendDo, 1), api.ErrOld)
}

func TestWishDo(t *testing.T) {
	p := two(t)
	does(t, "client 0", p, of(api.WishDo, 0), on(p, wish(0, 1)), api.Told{})
	does(t, "client 1", on(p, diff()), of(api.WishDo, 1), on(p, diff(), wish(1, 0)), api.Told{})
	does(t, "no version", ready(t), of(api.WishDo, 0), on(ready(t), wish(0, 0)), api.Told{})
}

func TestLoseDo(t *testing.T) {
	p := two(t)
	a, b, c := diff(), wish(1, 0), whole(1)
	does(t, "first", on(p, a, b, c), of(api.LoseDo, 0), on(p, b, c), api.Told{})
	does(t, "second", on(p, a, b, c), of(api.LoseDo, 1), on(p, a, c), api.Told{})
	does(t, "last", on(p, a, b, c), of(api.LoseDo, 2), on(p, a, b), api.Told{})
	does(t, "only", on(p, a), of(api.LoseDo, 0), p, api.Told{})
}

func TestDeliveries(t *testing.T) {
	p := two(t)
	news := p.Versions[1]
	other := api.Msg{Kind: api.WholeM, To: 1, No: 9, Week: sample.Week(-4, 5)}
	for name, x := range map[string]struct {
		m    api.Msg
		want api.Planner
	}{
		"difference":         {diff(), shows(p, 0, api.Client{No: 2, Week: news.Week}, news)},
		"whole":              {whole(0), shows(p, 0, api.Client{No: 2, Week: news.Week}, news)},
		"first":              {whole(1), shows(p, 1, api.Client{No: 2, Week: news.Week}, news)},
		"not published":      {other, shows(p, 1, api.Client{No: 9, Week: other.Week}, api.Version{No: 9, Week: other.Week})},
		"number only":        {api.Msg{Kind: api.WholeM, No: most}, shows(p, 0, api.Client{No: most}, api.Version{No: most})},
		"another week":       {api.Msg{Kind: api.WholeM, No: 2}, shows(p, 0, api.Client{No: 2}, news)},
		"difference to none": {api.Msg{Kind: api.DiffM, To: 1, No: 1}, shows(p, 1, api.Client{No: 1}, p.Versions[0])},
	} {
		does(t, "get: "+name, on(p, wish(7, 7), x.m, wish(8, 8)), of(api.GetDo, 1), on(x.want, wish(7, 7), wish(8, 8)), api.Told{})
		does(t, "twice: "+name, on(p, wish(7, 7), x.m), of(api.TwiceDo, 1), on(x.want, wish(7, 7), x.m), api.Told{})
	}
}

func TestWishes(t *testing.T) {
	p := two(t)
	for name, x := range map[string]struct{ m, reply api.Msg }{
		"difference":        {wish(0, 1), diff()},
		"whole":             {wish(1, 0), whole(1)},
		"of no such client": {wish(7, 0), whole(7)},
	} {
		does(t, "get: "+name, on(p, x.m, diff()), of(api.GetDo, 0), on(p, diff(), x.reply), api.Told{})
		does(t, "twice: "+name, on(p, x.m, diff()), of(api.TwiceDo, 0), on(p, x.m, diff(), x.reply), api.Told{})
	}
}

func TestFailedDeliveries(t *testing.T) {
	p := two(t)
	for name, x := range map[string]struct {
		m api.Msg
		e api.Errno
	}{
		"old":             {api.Msg{Kind: api.WholeM, No: 1, Week: sample.Week(0, 0)}, api.ErrOld},
		"lost":            {api.Msg{Kind: api.DiffM, To: 1, From: 1, No: 2}, api.ErrLost},
		"no such lesson":  {api.Msg{Kind: api.DiffM, From: 1, No: 2, Moves: []api.Move{{Lesson: 1}}}, api.ErrArg},
		"no such client":  {whole(2), api.ErrArg},
		"client -1":       {whole(-1), api.ErrArg},
		"no kind":         {api.Msg{No: 2}, api.ErrArg},
		"unknown kind":    {api.Msg{Kind: 4, No: 2}, api.ErrArg},
		"number 0":        {api.Msg{Kind: api.WholeM}, api.ErrArg},
		"nothing newer":   {wish(0, 2), api.ErrOld},
		"wish of -1":      {wish(0, -1), api.ErrArg},
		"wish of 8":       {wish(8, 0), api.ErrArg},
		"wish of nothing": {wish(-1, 5), api.ErrArg},
	} {
		rest := on(p, wish(7, 7), wish(8, 8))
		if q, told := planner.Do(on(p, wish(7, 7), x.m, wish(8, 8)), of(api.GetDo, 1)); show(told) != show(api.Told{E: x.e}) || show(q) != show(rest) {
			t.Errorf("%s: %s, %s", name, show(told), show(q))
		}
		fails(t, name, on(p, wish(7, 7), x.m), of(api.TwiceDo, 1), x.e)
	}
	if _, told := planner.Do(on(ready(t), wish(0, 0)), of(api.GetDo, 0)); told.E != api.ErrOld {
		t.Error("a wish without a version:", told)
	}
}

func TestTheNewestAfterAWish(t *testing.T) {
	p := after(t, two(t), of(api.WishDo, 0), of(api.WishDo, 1), of(api.TwiceDo, 0), of(api.GetDo, 1), of(api.LoseDo, 0), of(api.GetDo, 0))
	if reply, _ := feed.Reply(p.Versions, 0, 1); show(p.Wire) != show([]api.Msg{reply}) || p.Clients[0].No != 2 || p.Clients[1].No != 0 {
		t.Error(p.Wire, p.Clients)
	}
	if p = after(t, p, of(api.GetDo, 0)); show(p.Clients[0]) != show(p.Clients[1]) || p.Clients[0].No != 2 {
		t.Error(p.Clients)
	}
}
