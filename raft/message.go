package raft

import (
	"strings"

	"rialto/api"
	"rialto/entries"
	"rialto/net"
	"rialto/snap"
	"rialto/term"
)

// messages tells what is done about a message by its kind.
func messages() map[int]func(w *work, m api.Msg) api.Errno {
	return map[int]func(w *work, m api.Msg) api.Errno{
		api.MsgPoll:     (*work).polled,
		api.MsgGrant:    (*work).granted,
		api.MsgAppend:   (*work).ledOn,
		api.MsgInstall:  (*work).ledOn,
		api.MsgAppended: (*work).appended,
	}
}

func (w *work) message(e api.NodeEvent) api.Errno {
	m := e.Msg
	if !mayBeSent(m) || m.To != w.Me || m.From > w.N {
		return api.ErrArg
	}
	w.hear(m.Term)
	return messages()[m.Kind](w, m)
}

// mayBeSent lets net write it: that refuses just what may not be.
func mayBeSent(m api.Msg) bool {
	_, e := net.Encode(m)
	return e == api.OK
}

// hear is never refused: the ballot may be, and a message that may be has a term.
func (w *work) hear(of int) {
	heard, _ := term.Hear(w.Ballot, of)
	if heard.Hard == w.Ballot.Hard {
		return
	}
	w.Ballot = heard
	w.follow(0)
}

// polled is never refused by Grant: the message names a node, a term and a mark, and the log's last mark is one.
func (w *work) polled(m api.Msg) api.Errno {
	ask := api.Ask{From: m.From, Term: m.Term, Last: m.Prev}
	ballot, ok, _ := term.Grant(w.Ballot, ask, entries.Last(w.Log))
	w.Ballot = ballot
	w.out.Wait = ok
	w.tell(api.Msg{Kind: api.MsgGrant, To: m.From, Ok: ok})
	return api.OK
}

func (w *work) granted(m api.Msg) api.Errno {
	led := w.leads()
	w.Ballot, _ = term.Count(w.Ballot, m.From, m.Term, m.Ok, w.N)
	if led || !w.leads() {
		return api.OK
	}
	return w.lead()
}

// ledOn answers one that says that it leads.
func (w *work) ledOn(m api.Msg) api.Errno {
	if m.Term < w.term() {
		w.answer(m, false, 0)
		return api.OK
	}
	if w.leads() {
		return api.OK
	}
	w.follow(m.From)
	w.out.Wait = true
	if m.Kind == api.MsgAppend {
		w.accept(m)
	} else {
		w.install(m)
	}
	return api.OK
}

func (w *work) answer(m api.Msg, ok bool, match int) {
	w.tell(api.Msg{Kind: api.MsgAppended, To: m.From, Ok: ok, Match: match})
}

func (w *work) accept(m api.Msg) {
	l, match, ok, errno := entries.Accept(w.Log, m.Prev, m.Entries, m.Commit)
	if errno != api.OK {
		w.answer(m, false, w.Log.Commit)
		return
	}
	if !ok { // what is asked for has an index above 0: the mark of 0 is there, or ahead of the base
		w.answer(m, false, min(w.lastIndex(), m.Prev.Index-1))
		return
	}
	ahead := w.Log
	w.Log = l
	if at, turned := turnedAt(ahead, l); turned {
		w.keepTail(at)
	}
	w.answer(m, true, match)
}

// turnedAt is the first index at which a log is another one than it was, behind the same base.
func turnedAt(was, is api.Log) (int, bool) {
	same := 0
	for same < min(len(was.L), len(is.L)) && was.L[same] == is.L[same] {
		same++
	}
	return is.Base.Index + 1 + same, same < max(len(was.L), len(is.L))
}

// install is never refused by Install: the log may be, and the message has a snapshot's mark.
func (w *work) install(m api.Msg) {
	l, needed, _ := snap.Install(w.Log, m.Snap.Mark)
	if needed {
		w.Log, w.Text = l, strings.Clone(m.Snap.Text)
		w.keepSnapshot()
	}
	w.answer(m, true, min(m.Snap.Mark.Index, w.Log.Commit))
}

// appended is what a leader learns of a node; what it hears from earlier terms, or of entries that it has not, tells it nothing.
func (w *work) appended(m api.Msg) api.Errno {
	last := w.lastIndex()
	if !w.leads() || m.Term != w.term() || m.Match > last {
		return api.OK
	}
	node := m.From
	if !m.Ok {
		w.Next[node] = max(min(m.Match+1, w.Next[node]), w.Match[node]+1)
		w.send(node)
		return api.OK
	}
	w.Match[node] = max(w.Match[node], m.Match)
	w.Next[node] = max(w.Next[node], w.Match[node]+1)
	w.advance()
	if w.Next[node] <= last {
		w.send(node)
	}
	return api.OK
}
