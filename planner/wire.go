package planner

import (
	"slices"

	"chalkline/api"
	"chalkline/feed"
)

// send sends the newest version to a client.
func (w *work) send(d api.Do) api.Told {
	require(isIndex(w.Clients, d.N), api.ErrArg)
	w.reply(0, d.N)
	return api.Told{}
}

// wish sends the number of the version that a client shows.
func (w *work) wish(d api.Do) api.Told {
	require(isIndex(w.Clients, d.N), api.ErrArg)
	w.Wire = with(w.Wire, feed.Wish(w.Clients[d.N], d.N))
	return api.Told{}
}

// get delivers a message. The message is lost even if the delivery fails.
func (w *work) get(d api.Do) api.Told {
	m := w.remove(d.N)
	w.back.Wire = w.Wire
	w.deliver(m)
	return api.Told{}
}

// twice delivers a message that is still in transit afterwards.
func (w *work) twice(d api.Do) api.Told {
	require(isIndex(w.Wire, d.N), api.ErrArg)
	w.deliver(w.Wire[d.N])
	return api.Told{}
}

// lose loses a message.
func (w *work) lose(d api.Do) api.Told {
	w.remove(d.N)
	return api.Told{}
}

// isIndex reports whether at is an index of a list.
func isIndex[T any](l []T, at int) bool { return at >= 0 && at < len(l) }

// remove removes and returns a message in transit.
func (w *work) remove(at int) api.Msg {
	require(isIndex(w.Wire, at), api.ErrArg)
	m := w.Wire[at]
	w.Wire = slices.Concat(w.Wire[:at], w.Wire[at+1:])
	return m
}

// reply sends the message that brings a client from version no to the newest one.
func (w *work) reply(no, to int) {
	m, e := feed.Reply(w.Versions, no, to)
	check(e)
	w.Wire = with(w.Wire, m)
}

// deliver delivers a message: a wish to the planner, any other one to its client.
func (w *work) deliver(m api.Msg) {
	if m.Kind == api.WishM {
		w.reply(m.No, m.To)
		return
	}
	require(isIndex(w.Clients, m.To), api.ErrArg)
	c, e := feed.Take(w.Clients[m.To], m)
	check(e)
	w.Clients = slices.Clone(w.Clients)
	w.Clients[m.To] = c
	w.record(api.Event{Kind: api.ShownE, Client: m.To, V: w.shown(c)})
}

// shown returns the version that a client shows; of one that was not published only the number and the week are known.
func (w *work) shown(c api.Client) api.Version {
	if isIndex(w.Versions, c.No-1) {
		return w.Versions[c.No-1]
	}
	return api.Version{No: c.No, Week: c.Week}
}
