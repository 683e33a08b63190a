package exchange

import (
	"sync"

	"rialto/api"
	"rialto/shard"
)

// machine is a group as one machine.
type machine struct {
	made  sync.Once
	state api.Shard
}

// machine is the one of a group that is there; its state is made when it is first asked for.
func (w *World) machine(group int) *machine {
	m := &w.groups[group]
	m.made.Do(func() { m.state, _ = shard.New(group, len(w.groups)) })
	return m
}

func (w *World) tick(group int) {
	w.lobby.Send(shard.Out(w.machine(group).state)...)
}

func (w *World) deliver(at int) api.Errno {
	m, e := w.lobby.Take(at)
	if e != api.OK {
		return e
	}
	if m.Kind == api.MsgAnswer {
		w.lobby.Hear(m)
	} else if w.has(m.To) {
		w.apply(m)
	}
	return api.OK
}

func (w *World) apply(m api.Message) {
	to := w.machine(m.To)
	state, told, marks := shard.Apply(to.state, m)
	to.state = state
	w.lobby.Mark(marks...)
	w.lobby.Send(told...)
}

// round ends, for what a message tells at once stands later in its transaction: a vote, an acknowledgement, and the answer behind that.
func (w *World) round() {
	w.rounds.Add(1)
	w.lobby.RetryAll()
	for group := range w.groups {
		w.tick(group)
	}
	for !w.lobby.Empty() {
		w.deliver(0)
	}
}
