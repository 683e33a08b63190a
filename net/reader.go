package net

import (
	"rialto/api"
	"rialto/pack"
)

// maxNumber: no number in a message that may be is greater. What is greater is refused ahead of being made an int, into which it might not go.
const maxNumber = max(api.MaxTerm, api.MaxIndex)

// reader takes numbers and texts one behind the other; once something is not there, it is not ok any more, and all else is zero.
type reader struct {
	text string
	at   int
	ok   bool
}

// messageIn is the message that a text says, all of it; whether it may be is not asked here.
func messageIn(text string) (api.Msg, bool) {
	r := &reader{text: text, ok: true}
	m := r.message()
	if !r.ok || r.at < len(text) {
		return api.Msg{}, false
	}
	return m, true
}

func (r *reader) message() api.Msg {
	var m api.Msg
	m.Kind = r.number()
	m.From = r.number()
	m.To = r.number()
	m.Term = r.number()
	switch m.Kind {
	case api.MsgPoll:
		m.Prev = r.spot()
	case api.MsgGrant:
		m.Ok = r.flag()
	case api.MsgAppend:
		m.Prev = r.spot()
		m.Commit = r.number()
		m.Entries = r.entries()
	case api.MsgAppended:
		m.Ok = r.flag()
		m.Match = r.number()
	case api.MsgInstall:
		m.Snap.Mark = r.spot()
		m.Snap.Text = r.piece()
	}
	return m
}

func (r *reader) spot() api.Spot {
	index := r.number()
	return api.Spot{Index: index, Term: r.number()}
}

func (r *reader) entries() []api.Entry {
	count := r.number()
	if count > api.MaxBatch {
		r.ok = false
		return nil
	}
	var l []api.Entry
	for range count {
		term := r.number()
		kind := r.number()
		l = append(l, api.Entry{Term: term, Kind: kind, Text: r.piece()})
	}
	return l
}

func (r *reader) flag() bool {
	n := r.number()
	r.ok = r.ok && n <= 1
	return n == 1
}

func (r *reader) number() int {
	if !r.ok {
		return 0
	}
	n, next, e := pack.TakeUint(r.text, r.at)
	r.at, r.ok = next, e == api.OK && n <= maxNumber
	if !r.ok {
		return 0
	}
	return int(n)
}

func (r *reader) piece() string {
	if !r.ok {
		return ""
	}
	s, next, e := pack.TakeText(r.text, r.at)
	r.at, r.ok = next, e == api.OK
	return s
}
