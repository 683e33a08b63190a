package raft

import (
	"slices"
	"strings"

	"rialto/api"
	"rialto/entries"
	"rialto/snap"
	"rialto/term"
)

// work is a node that an event happens to, and what it does about that. Its memory is its own.
type work struct {
	api.Node
	out api.Out
}

// events tells what happens by an event's kind. What is refused may leave the work half done: it is thrown away then.
func events() map[int]func(w *work, e api.NodeEvent) api.Errno {
	return map[int]func(w *work, e api.NodeEvent) api.Errno{
		api.EvTimeout: (*work).timeout,
		api.EvPropose: (*work).propose,
		api.EvMessage: (*work).message,
		api.EvSave:    (*work).save,
	}
}

func (w *work) timeout(e api.NodeEvent) api.Errno {
	w.out.Wait = true
	if w.leads() {
		w.eachOther(w.send)
		return api.OK
	}
	ballot, errno := term.Begin(w.Ballot, w.Me, w.N)
	if errno != api.OK { // it stands in the last term that there is
		return api.ErrRaftFull
	}
	w.Ballot, w.Leader = ballot, 0
	if w.leads() {
		return w.lead()
	}
	w.eachOther(w.poll)
	return api.OK
}

func (w *work) propose(e api.NodeEvent) api.Errno {
	if !w.leads() {
		return api.ErrRaftLeader
	}
	if len(e.Text) > api.MaxCommand {
		return api.ErrLong
	}
	errno := w.add(api.Entry{Term: w.term(), Kind: api.EntryCommand, Text: e.Text})
	w.out.Index = w.lastIndex()
	return errno
}

func (w *work) save(e api.NodeEvent) api.Errno {
	if len(e.Text) > api.MaxSnapshot {
		return api.ErrLong
	}
	l, errno := snap.Compact(w.Log, e.Index)
	if errno != api.OK {
		return errno
	}
	w.Log, w.Text = l, strings.Clone(e.Text)
	w.keepSnapshot()
	return api.OK
}

func (w *work) leads() bool { return w.Ballot.Role == api.RoleLeader }

func (w *work) term() int { return w.Ballot.Hard.Term }

func (w *work) lastIndex() int { return entries.Last(w.Log).Index }

// lead begins to lead: nothing is known of the others, and what earlier leaders left is committed by an entry of its own term alone.
func (w *work) lead() api.Errno {
	w.Leader = w.Me
	w.Next = slices.Repeat([]int{w.lastIndex() + 1}, w.N+1)
	w.Match = make([]int, w.N+1)
	w.Next[0] = 0
	w.out.Wait = true
	return w.add(api.Entry{Term: w.term(), Kind: api.EntryStart})
}

// add puts a leader's entry behind the others, and sends it.
func (w *work) add(e api.Entry) api.Errno {
	l, errno := entries.Add(w.Log, e)
	if errno != api.OK {
		return api.ErrRaftFull
	}
	w.Log = l
	w.keepTail(w.lastIndex())
	w.Match[w.Me] = w.lastIndex()
	w.advance()
	w.eachOther(w.send)
	return api.OK
}

// advance is never refused: a leader that may be has a term, and a Match for each node.
func (w *work) advance() { w.Log, _ = entries.Advance(w.Log, w.term(), w.Match[1:]) }

// follow lets it follow a leader; 0: it waits for one.
func (w *work) follow(leader int) {
	w.Ballot.Role, w.Ballot.Got = api.RoleFollower, nil
	w.Leader = leader
	w.Next, w.Match = nil, nil
}

// eachOther does something for each other node, rising.
func (w *work) eachOther(do func(node int)) {
	for node := 1; node <= w.N; node++ {
		if node != w.Me {
			do(node)
		}
	}
}

func (w *work) poll(node int) {
	w.tell(api.Msg{Kind: api.MsgPoll, To: node, Prev: entries.Last(w.Log)})
}

// send tells a node what a leader thinks that it lacks.
func (w *work) send(node int) {
	next := w.Next[node]
	if next <= w.Log.Base.Index {
		w.tell(api.Msg{Kind: api.MsgInstall, To: node, Snap: w.snapshot()})
		return
	}
	ahead, _ := entries.TermAt(w.Log, next-1)
	w.tell(api.Msg{
		Kind:    api.MsgAppend,
		To:      node,
		Prev:    api.Spot{Index: next - 1, Term: ahead},
		Entries: entries.From(w.Log, next, api.MaxBatch),
		Commit:  w.Log.Commit,
	})
}

func (w *work) tell(m api.Msg) {
	m.From, m.Term = w.Me, w.term()
	w.out.Msgs = append(w.out.Msgs, m)
}

func (w *work) snapshot() api.Snapshot { return api.Snapshot{Mark: w.Log.Base, Text: w.Text} }

// keepHard is called behind all else, for an event may turn Hard more than once; yet it stands ahead of the other records.
func (w *work) keepHard(ahead api.Hard) {
	if w.Ballot.Hard != ahead {
		w.out.Records = slices.Insert(w.out.Records, 0, api.Record{Kind: api.RecHard, Hard: w.Ballot.Hard})
	}
}

func (w *work) keepTail(at int) {
	tail := entries.From(w.Log, at, api.MaxLog)
	w.out.Records = append(w.out.Records, api.Record{Kind: api.RecTail, At: at, Entries: tail})
}

func (w *work) keepSnapshot() {
	w.out.Records = append(w.out.Records, api.Record{Kind: api.RecSnap, Snap: w.snapshot()})
}
