package shard

import (
	"slices"

	"rialto/api"
	"rialto/coord"
	"rialto/part"
	"rialto/session"
	"rialto/shardmap"
)

// work is a group that a message comes to, and what it tells and marks by that. Where taking it in answers an error, all of it is thrown away.
type work struct {
	api.Shard
	told  []api.Message
	marks []api.Mark
}

func (w *work) take(m api.Message) api.Errno {
	switch m.Kind {
	case api.MsgAsk:
		return w.ask(m)
	case api.MsgPrepare:
		return w.prepare(m)
	case api.MsgFinish:
		return w.finish(m)
	case api.MsgVote, api.MsgWound, api.MsgAck:
		return w.hear(m)
	}
	return api.OK
}

// ask takes a client's request in, at the client's home alone.
func (w *work) ask(m api.Message) api.Errno {
	if !w.isHome(m.Txn) {
		return api.OK
	}
	sessions, state, answer, e := session.Begin(w.Sessions, m.Txn)
	if e != api.OK {
		return e
	}
	w.Sessions = sessions
	switch state {
	case api.SessionAgain:
		w.answer(m.Txn, answer)
	case api.SessionNew:
		return w.begin(m.Txn, m.Req)
	}
	return api.OK
}

func (w *work) isHome(t api.Txn) bool {
	return w.Groups > 0 && t.Client%w.Groups == w.Group
}

// begin lets a request that is new be coordinated, or ends it, if it would move a key to where none can go.
func (w *work) begin(t api.Txn, r api.Request) api.Errno {
	var peers []api.Peer
	for _, key := range session.Keys(r) {
		owner, e := shardmap.Owner(w.Map, key, w.Groups)
		if e != api.OK {
			return e
		}
		peers = append(peers, api.Peer{Key: key, Group: owner.Group})
	}
	if r.Kind == api.ReqMove {
		to := api.Peer{Key: r.Key, Group: r.To}
		if r.To >= w.Groups || slices.Contains(peers, to) {
			return w.end(t, api.Answer{Code: api.ErrRejected})
		}
		peers = append(peers, to)
	}
	c, e := coord.Begin(w.Coord, t, r, peers)
	w.Coord = c
	return e
}

func (w *work) prepare(m api.Message) api.Errno {
	p, told, marks, e := part.Prepare(w.Part, m)
	w.Part = p
	w.tell(told...)
	w.mark(marks...)
	return e
}

// finish lets the participant do what was decided; a cell that went or came by that is looked for where it is from then on.
func (w *work) finish(m api.Message) api.Errno {
	p, told, marks, e := part.Finish(w.Part, m)
	if e != api.OK {
		return e
	}
	old, was := cellOf(w.Part, m.Key)
	cell, is := cellOf(p, m.Key)
	to := w.goal(m)
	w.Part = p
	switch {
	case was && !is:
		e = w.learn(api.Place{Key: m.Key, Group: to, Version: old.Version + 1})
	case is && !was:
		e = w.learn(api.Place{Key: m.Key, Group: w.Group, Version: cell.Version})
	}
	w.tell(told...)
	w.mark(marks...)
	return e
}

// goal is where the pend that a message ends moves its key.
func (w *work) goal(m api.Message) int {
	for _, pend := range w.Part.Pends {
		if pend.Txn == m.Txn && pend.Key == m.Key {
			return pend.Req.To
		}
	}
	return 0
}

// hear lets the coordinator hear. What a vote tells of a key's place is learned even if the transaction is over.
func (w *work) hear(m api.Message) api.Errno {
	if e := w.hearOfPlace(m); e != api.OK {
		return e
	}
	c, marks, e := coord.Hear(w.Coord, m)
	if e != api.OK {
		return api.OK
	}
	w.Coord = c
	w.mark(marks...)
	for _, mark := range marks {
		if e := w.learnMove(mark.Txn); e != api.OK {
			return e
		}
	}
	return w.endAll()
}

func (w *work) hearOfPlace(m api.Message) api.Errno {
	if m.Kind != api.MsgVote || m.Answer.Code != api.ErrMoved || m.Req.Kind != api.ReqMove {
		return api.OK
	}
	return w.learn(api.Place{Key: m.Key, Group: m.Req.To, Version: m.Answer.Num})
}

// learnMove learns where a transaction that came to commit moves a key, if it does.
func (w *work) learnMove(t api.Txn) api.Errno {
	for _, x := range w.Coord.Trans {
		if x.Txn == t && x.Req.Kind == api.ReqMove && len(x.Cells) > 0 {
			return w.learn(api.Place{Key: x.Req.Key, Group: x.Req.To, Version: x.Cells[0].Version + 1})
		}
	}
	return api.OK
}

// endAll answers all transactions that are over.
func (w *work) endAll() api.Errno {
	for {
		c, t, over := coord.Ended(w.Coord)
		if !over {
			return api.OK
		}
		w.Coord = c
		if e := w.end(t.Txn, t.Answer); e != api.OK {
			return e
		}
	}
}

func (w *work) end(t api.Txn, a api.Answer) api.Errno {
	sessions, e := session.End(w.Sessions, t, a)
	w.Sessions = sessions
	w.answer(t, a)
	return e
}

func (w *work) answer(t api.Txn, a api.Answer) {
	w.tell(api.Message{Kind: api.MsgAnswer, From: w.Group, To: client, Txn: t, Answer: a})
}

func (w *work) learn(p api.Place) api.Errno {
	places, e := shardmap.Learn(w.Map, p)
	w.Map = places
	return e
}

func (w *work) tell(l ...api.Message) {
	for _, m := range l {
		w.told = append(w.told, w.withPlace(m))
	}
}

func (w *work) mark(l ...api.Mark) { w.marks = append(w.marks, l...) }

// withPlace lets a vote that a key has gone tell where to, so that the next request finds it.
func (w *work) withPlace(m api.Message) api.Message {
	if m.Kind != api.MsgVote || m.Answer.Code != api.ErrMoved {
		return m
	}
	if owner, e := shardmap.Owner(w.Map, m.Key, w.Groups); e == api.OK {
		m.Req = api.Request{Kind: api.ReqMove, Key: m.Key, To: owner.Group}
		m.Answer.Num = owner.Version
	}
	return m
}

func cellOf(p api.Part, key api.Key) (api.Cell, bool) {
	at := slices.IndexFunc(p.Cells, func(c api.Cell) bool { return c.Key == key })
	if at < 0 {
		return api.Cell{}, false
	}
	return p.Cells[at], true
}
