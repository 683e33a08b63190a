package group

import (
	"sync"

	"rialto/api"
	"rialto/disk"
	"rialto/net"
	"rialto/raft"
	"rialto/store"
)

const (
	firstDraw = 10 // and its number: so no two nodes stand at the same tick at first
	leastDraw = 3  // above Beat, or a node would stand against a leader that it hears
)

// member is a node, and what it stands on.
type member struct {
	made  sync.Once
	disk  *disk.Disk
	store *store.Store // nil: the node is not up
	node  api.Node
	draw  int
}

// member is the one of a node of the group; what it needs is made when it is first asked for.
func (g *Group) member(node int) *member {
	m := &g.members[node]
	m.made.Do(func() {
		m.disk, _ = disk.New(g.config.Disk)
		m.store, _ = store.New(m.disk)
		m.node, _ = raft.Start(node, g.config.Nodes, api.Hard{}, api.Snapshot{}, nil)
		m.draw = firstDraw + node
	})
	return m
}

// happen lets an event happen to a node that is up, and answers the index of what was proposed. What it sends must not be known to others ahead of its own disk.
func (g *Group) happen(node int, e api.NodeEvent) (int, api.Errno) {
	g.events.Add(1)
	m := g.member(node)
	next, out, errno := raft.Step(m.node, e)
	if errno != api.OK {
		return 0, errno
	}
	if errno := m.keep(out.Records); errno != api.OK {
		g.fall(node)
		return 0, errno
	}
	m.node = next
	if out.Wait {
		g.setTimer(node)
	}
	g.send(out.Msgs)
	return out.Index, api.OK
}

// send loses what there is no room for.
func (g *Group) send(l []api.Msg) {
	for _, m := range l {
		if text, e := net.Encode(m); e == api.OK {
			g.net.Send(api.Packet{From: m.From, To: m.To, Text: text})
		}
	}
}

func (g *Group) setTimer(node int) { g.wheel.Set(node, g.member(node).wait()) }

func (g *Group) fall(node int) {
	m := g.member(node)
	m.store, m.node = nil, api.Node{}
	g.wheel.Stop(node)
}

// wait is how far ahead its timer is set.
func (m *member) wait() int {
	if m.node.Ballot.Role == api.RoleLeader {
		return api.Beat
	}
	return m.draw
}

func (m *member) setDraw(n int) api.Errno {
	if !within(n, leastDraw, api.MaxTicks) {
		return api.ErrArg
	}
	m.draw = n
	return api.OK
}

// keep makes records safe. Where there are none the disk is let alone: it may be down, and the node not know it yet.
func (m *member) keep(l []api.Record) api.Errno {
	if len(l) == 0 {
		return api.OK
	}
	if e := m.store.Put(l); e != api.OK {
		return e
	}
	return m.store.Sync()
}

// open lets a node come up with what its disk kept. That is made safe first: others may be told of it as soon as it is up.
func (m *member) open(node int, nodes int) api.Errno {
	s, e := store.Open(m.disk)
	if e != api.OK {
		return e
	}
	hard, snapshot, log := s.Hard(), s.Snap(), s.Log()
	if e := s.Sync(); e != api.OK {
		return e
	}
	begun, e := raft.Start(node, nodes, hard, snapshot, log)
	if e != api.OK {
		return e
	}
	m.store, m.node = s, begun
	return api.OK
}
