package group_test

import (
	"fmt"
	"slices"
	"testing"

	"rialto/api"
	"rialto/disk"
	"rialto/group"
	"rialto/net"
	"rialto/raft"
	"rialto/store"
)

// A group as the chapter's words say it: timers are numbers that go down, what is under way is a list. What nodes, stores and disks do is asked of their own packages.

type plainNode struct {
	up    bool
	disk  *disk.Disk
	store *store.Store
	node  api.Node
	draw  int
	left  int // how far ahead its timer is; 0: it has none
}

type plainGroup struct {
	nodes []*plainNode // by their numbers, from 1 on
	room  int
	way   []api.Packet
}

func newPlain(c api.GroupConfig) *plainGroup {
	p := &plainGroup{nodes: []*plainNode{nil}, room: c.Room}
	for i := 1; i <= c.Nodes; i++ {
		n := &plainNode{up: true, draw: 10 + i, left: 10 + i}
		n.disk, _ = disk.New(c.Disk)
		n.store, _ = store.New(n.disk)
		n.node, _ = raft.Start(i, c.Nodes, api.Hard{}, api.Snapshot{}, nil)
		p.nodes = append(p.nodes, n)
	}
	return p
}

func (n *plainNode) set() {
	n.left = n.draw
	if n.node.Ballot.Role == api.RoleLeader {
		n.left = 2
	}
}

func (n *plainNode) fall() { n.up, n.left = false, 0 }

func (p *plainGroup) happen(i int, e api.NodeEvent) (int, api.Errno) {
	n := p.nodes[i]
	is, out, errno := raft.Step(n.node, e)
	if errno != api.OK {
		return 0, errno
	}
	if len(out.Records) > 0 {
		errno = n.store.Put(out.Records)
		if errno == api.OK {
			errno = n.store.Sync()
		}
		if errno != api.OK {
			n.fall()
			return 0, errno
		}
	}
	n.node = is
	if out.Wait {
		n.set()
	}
	for _, m := range out.Msgs {
		text, _ := net.Encode(m)
		if len(p.way) < p.room {
			p.way = append(p.way, api.Packet{From: m.From, To: m.To, Text: text})
		}
	}
	return out.Index, api.OK
}

func (p *plainGroup) do(a api.GroupAct) (int, api.Errno) {
	named := []int{api.GrDraw, api.GrPropose, api.GrFuse, api.GrCrash, api.GrRestart, api.GrSave}
	if a.Kind < 1 || a.Kind > 10 || slices.Contains(named, a.Kind) && (a.Node < 1 || a.Node >= len(p.nodes)) {
		return 0, api.ErrGroupAct
	}
	switch a.Kind {
	case api.GrTick:
		p.tick()
		return 0, api.OK
	case api.GrPropose:
		if !p.nodes[a.Node].up {
			return 0, api.ErrDiskDown
		}
		return p.happen(a.Node, api.NodeEvent{Kind: api.EvPropose, Text: a.Text})
	case api.GrSave:
		if !p.nodes[a.Node].up {
			return 0, api.ErrDiskDown
		}
		_, e := p.happen(a.Node, api.NodeEvent{Kind: api.EvSave, Index: a.N, Text: a.Text})
		return 0, e
	case api.GrDeliver, api.GrDrop, api.GrDouble:
		return 0, p.packet(a.Kind, a.N)
	}
	return 0, p.one(p.nodes[a.Node], a)
}

func (p *plainGroup) tick() {
	var due []int
	for i := 1; i < len(p.nodes); i++ {
		if n := p.nodes[i]; n.left > 0 {
			n.left--
			if n.left == 0 {
				due = append(due, i)
			}
		}
	}
	for _, i := range due {
		if _, e := p.happen(i, api.NodeEvent{Kind: api.EvTimeout}); e != api.OK && p.nodes[i].up {
			p.nodes[i].set()
		}
	}
}

func (p *plainGroup) packet(kind int, i int) api.Errno {
	if i < 0 || i >= len(p.way) {
		return api.ErrNetNone
	}
	if kind == api.GrDouble {
		if len(p.way) == p.room {
			return api.ErrNetFull
		}
		p.way = append(p.way, p.way[i])
		return api.OK
	}
	gone := p.way[i]
	p.way = append(slices.Clone(p.way[:i]), p.way[i+1:]...)
	if kind == api.GrDrop || !p.nodes[gone.To].up {
		return api.OK
	}
	m, e := net.Decode(gone.Text)
	if e != api.OK {
		return e
	}
	_, e = p.happen(gone.To, api.NodeEvent{Kind: api.EvMessage, Msg: m})
	return e
}

// one does an act that touches one node alone.
func (p *plainGroup) one(n *plainNode, a api.GroupAct) api.Errno {
	switch a.Kind {
	case api.GrDraw:
		if a.N < 3 || a.N > 1000 {
			return api.ErrArg
		}
		n.draw = a.N
	case api.GrFuse:
		return n.disk.Fuse(a.N)
	case api.GrCrash:
		n.fall()
		n.disk.Crash(a.Keep)
	case api.GrRestart:
		return p.restart(n, a.Node)
	}
	return api.OK
}

func (p *plainGroup) restart(n *plainNode, i int) api.Errno {
	if n.up {
		return api.ErrArg
	}
	s, e := store.Open(n.disk)
	if e != api.OK {
		return e
	}
	h, snap, l := s.Hard(), s.Snap(), s.Log()
	if e := s.Sync(); e != api.OK {
		return e
	}
	n.node, e = raft.Start(i, len(p.nodes)-1, h, snap, l)
	n.store, n.up = s, true
	n.set()
	return e
}

func (p *plainGroup) isUp(i int) bool { return i >= 1 && i < len(p.nodes) && p.nodes[i].up }

func (p *plainGroup) known(i int) []api.Entry {
	if !p.isUp(i) {
		return nil
	}
	l := p.nodes[i].node.Log
	return l.L[:l.Commit-l.Base.Index]
}

// sameNode holds nodes against each other; empty lists may be nil or not.
func sameNode(a, b api.Node) bool {
	return a.Me == b.Me && a.N == b.N && a.Leader == b.Leader && a.Text == b.Text &&
		a.Ballot.Hard == b.Ballot.Hard && a.Ballot.Role == b.Ballot.Role && slices.Equal(a.Ballot.Got, b.Ballot.Got) &&
		a.Log.Base == b.Log.Base && a.Log.Commit == b.Log.Commit && slices.Equal(a.Log.L, b.Log.L) &&
		slices.Equal(a.Next, b.Next) && slices.Equal(a.Match, b.Match)
}

// brief cuts off what nobody would read.
func brief(x any) string {
	s := fmt.Sprintf("%+v", x)
	return s[:min(len(s), 600)]
}

// hold looks at all that a group tells.
func hold(t *testing.T, g *group.Group, p *plainGroup, behind api.GroupAct) {
	t.Helper()
	for i := -1; i <= len(p.nodes); i++ {
		if up := g.Up(i); up != p.isUp(i) {
			t.Fatalf("P11.3: behind %s node %d is up: %t", brief(behind), i, up)
		}
		want := api.Node{}
		if p.isUp(i) {
			want = p.nodes[i].node
		}
		if n := g.Node(i); !sameNode(n, want) {
			t.Fatalf("P11.3: behind %s node %d is %s, want %s", brief(behind), i, brief(n), brief(want))
		}
		if l := g.Known(i); !slices.Equal(l, p.known(i)) {
			t.Fatalf("P11.3: behind %s node %d knows %s, want %s", brief(behind), i, brief(l), brief(p.known(i)))
		}
	}
	if l := g.Net(); !slices.Equal(l, p.way) {
		t.Fatalf("P11.3: behind %s %d are under way, want %d: %s, want %s", brief(behind), len(l), len(p.way), brief(l), brief(p.way))
	}
}

// pair is a group and a plain one beside it, to which all acts go alike.
type pair struct {
	t *testing.T
	g *group.Group
	p *plainGroup
}

func newPair(t *testing.T, c api.GroupConfig) *pair {
	t.Helper()
	g, e := group.New(c)
	if e != api.OK {
		t.Fatalf("P11.1: New(%v): %d", c, e)
	}
	q := &pair{t, g, newPlain(c)}
	hold(t, q.g, q.p, api.GroupAct{})
	return q
}

func (q *pair) do(a api.GroupAct) (int, api.Errno) {
	q.t.Helper()
	n, e := q.g.Do(a)
	if want, f := q.p.do(a); n != want || e != f {
		q.t.Fatalf("P11.2: %s: %d, %d, want %d, %d", brief(a), n, e, want, f)
	}
	hold(q.t, q.g, q.p, a)
	return n, e
}

// must does an act of which the answer is known.
func (q *pair) must(a api.GroupAct, want api.Errno) int {
	q.t.Helper()
	n, e := q.do(a)
	if e != want {
		q.t.Fatalf("P11.2: %s: %d, want %d", brief(a), e, want)
	}
	return n
}

func (q *pair) ticks(n int) {
	q.t.Helper()
	for range n {
		q.must(api.GroupAct{Kind: api.GrTick}, api.OK)
	}
}

// deliverAll lets all arrive that is under way, and what follows from it; leaders that speak to full logs never end, so it stops then.
func (q *pair) deliverAll() {
	q.t.Helper()
	for range 2000 {
		if len(q.p.way) == 0 {
			return
		}
		q.do(api.GroupAct{Kind: api.GrDeliver})
	}
}

func (q *pair) dropAll() {
	q.t.Helper()
	for len(q.p.way) > 0 {
		q.must(api.GroupAct{Kind: api.GrDrop}, api.OK)
	}
}

// rounds are ticks with a delivery of all behind each.
func (q *pair) rounds(n int) {
	q.t.Helper()
	for range n {
		q.ticks(1)
		q.deliverAll()
	}
}

func (q *pair) role(i int) int { return q.g.Node(i).Ballot.Role }
