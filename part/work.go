package part

import (
	"slices"

	"rialto/api"
	"rialto/fresh"
	"rialto/locks"
)

// work is a participant that a message comes to, and what it tells and marks by that. Its memory is its own.
type work struct {
	api.Part
	told  []api.Message
	marks []api.Mark
}

func (w *work) prepare(m api.Message) {
	if w.ended(m).Seq >= m.Txn.Seq || pendAt(w.Part, m.Txn, m.Key) >= 0 {
		return
	}
	pend := api.Pend{Txn: m.Txn, Key: m.Key, Home: m.From, Req: m.Req}
	if w.hasGone(pend) {
		w.refuse(pend, api.ErrMoved)
		return
	}
	table, holds, e := locks.Ask(w.Locks, m.Key, m.Txn)
	if e != api.OK { // the table, the key and the name may be, so it is full
		w.refuse(pend, api.ErrBusy)
		return
	}
	w.Locks = table
	w.Pends = append(w.Pends, pend)
	if holds {
		w.judge(len(w.Pends) - 1)
	}
}

func (w *work) finish(m api.Message) {
	ended := w.ended(m)
	if ended.Seq == m.Txn.Seq {
		w.acknowledge(m, ended.Answer)
	}
	if ended.Seq >= m.Txn.Seq {
		return
	}
	at := pendAt(w.Part, m.Txn, m.Key)
	if m.Yes && (at < 0 || !w.Pends[at].Yes) {
		return
	}
	var answer api.Answer
	if m.Yes {
		answer = w.do(w.Pends[at], m)
	}
	w.keep(m, answer)
	w.acknowledge(m, answer)
	if at >= 0 {
		w.Pends = slices.Delete(w.Pends, at, at+1)
		w.free(m.Key, m.Txn)
	}
}

// free lets a key go; whoever comes to hold it by that has waited, unjudged, until now. It is never refused: the table, the key and the name may be.
func (w *work) free(key api.Key, txn api.Txn) {
	table, heir, _ := locks.Free(w.Locks, key, txn)
	w.Locks = table
	if at := pendAt(w.Part, heir, key); at >= 0 {
		w.judge(at)
	}
}

// judge votes for a pend that has come to hold its key.
func (w *work) judge(at int) {
	pend := &w.Pends[at]
	pend.Voted = true
	e := w.errandOf(*pend, api.Message{})
	switch {
	case w.hasGone(*pend):
		pend.Code = api.ErrMoved
	case e.isRejected():
		pend.Code = api.ErrRejected
		w.marks = append(w.marks, api.Mark{Txn: pend.Txn})
	default:
		pend.Yes = true
		pend.Amounts, pend.Cells = e.shownAmounts(), e.shownCells()
	}
}

// hasGone tells whether a pend's key has no cell here; one that is moved here need not have any.
func (w *work) hasGone(pend api.Pend) bool {
	comes := pend.Req.Kind == api.ReqMove && pend.Req.To == w.Group
	return !comes && w.cellAt(pend.Key) < 0
}

func (w *work) errandOf(pend api.Pend, m api.Message) errand {
	e := errand{pend: pend, decision: m}
	if at := w.cellAt(pend.Key); at >= 0 {
		e.Cell, e.here = w.Cells[at], true
	}
	return e
}

// do does what a pend asked, and puts the cell as that leaves it in its place.
func (w *work) do(pend api.Pend, m api.Message) api.Answer {
	e := w.errandOf(pend, m)
	answer, errno := e.run()
	if errno != api.OK { // it was judged by the same cell, which nobody else has changed since
		return api.Answer{}
	}
	w.Cells = slices.DeleteFunc(w.Cells, func(c api.Cell) bool { return c.Key == pend.Key })
	if e.here {
		at := 0
		for at < len(w.Cells) && isAhead(w.Cells[at].Key, pend.Key) {
			at++
		}
		w.Cells = slices.Insert(w.Cells, at, e.Cell)
	}
	return answer
}

func (w *work) cellAt(key api.Key) int {
	return slices.IndexFunc(w.Cells, func(c api.Cell) bool { return c.Key == key })
}

// ended is what Done has of a message's key and client: a Seq of 0, where it has nothing.
func (w *work) ended(m api.Message) api.Done {
	if at := w.doneAt(m); at >= 0 {
		return w.Done[at]
	}
	return api.Done{}
}

func (w *work) keep(m api.Message, a api.Answer) {
	row := api.Done{Key: m.Key, Client: m.Txn.Client, Seq: m.Txn.Seq, Answer: a}
	if at := w.doneAt(m); at >= 0 {
		w.Done[at] = row
		return
	}
	w.Done = append(w.Done, row)
}

func (w *work) doneAt(m api.Message) int {
	return slices.IndexFunc(w.Done, func(d api.Done) bool { return d.Key == m.Key && d.Client == m.Txn.Client })
}

func (w *work) refuse(pend api.Pend, code api.Errno) {
	pend.Code = code
	w.told = append(w.told, vote(w.Group, pend))
}

func (w *work) acknowledge(m api.Message, a api.Answer) {
	ack := api.Message{Kind: api.MsgAck, From: w.Group, To: m.From, Txn: m.Txn, Key: m.Key, Answer: fresh.Answer(a)}
	w.told = append(w.told, ack)
}
