package raft_test

import (
	"math/rand"
	"slices"
	"strconv"
	"testing"

	"rialto/api"
	"rialto/disk"
	"rialto/entries"
	"rialto/raft"
	"rialto/store"
)

// Several nodes with stores of their own, and messages that are lost, doubled and late: what P10.3 says follows.

type run struct {
	t     *testing.T
	r     *rand.Rand
	n     int
	nodes []api.Node // by their numbers
	disks []*disk.Disk
	kept  []*store.Store
	way   []api.Msg

	leaders   map[int]int       // who leads, by terms
	votes     map[[2]int]int    // to whom a node granted, by the node and the term
	committed map[int]api.Entry // by indices
	hards     []api.Hard        // the last one that each node told of
	proposed  int
}

func newRun(t *testing.T, seed int64, n int) *run {
	u := &run{t: t, r: rand.New(rand.NewSource(seed)), n: n, nodes: make([]api.Node, n+1), disks: make([]*disk.Disk, n+1), kept: make([]*store.Store, n+1), hards: make([]api.Hard, n+1), leaders: map[int]int{}, votes: map[[2]int]int{}, committed: map[int]api.Entry{}}
	for i := 1; i <= n; i++ {
		u.disks[i], _ = disk.New(200000)
		u.kept[i], _ = store.New(u.disks[i])
		u.nodes[i], _ = raft.Start(i, n, api.Hard{}, api.Snapshot{}, nil)
	}
	return u
}

func (u *run) step(i int, e api.NodeEvent) api.Errno {
	is, out, errno := raft.Step(u.nodes[i], e)
	if errno != api.OK {
		return errno
	}
	checkFollows(u.t, u.nodes[i], e, is, out)
	if put := u.kept[i].Put(out.Records); put != api.OK {
		u.t.Fatalf("P10.3: the records %v do not fit what node %d keeps: %d", out.Records, i, put)
	}
	if u.r.Intn(30) == 0 && len(out.Records) > 0 { // it falls ahead of the sync: nothing was sent
		u.restart(i, []int{u.r.Intn(200), u.r.Intn(200)})
		return api.OK
	}
	u.kept[i].Sync()
	u.nodes[i] = is
	u.look(i)
	for _, m := range out.Msgs {
		u.said(i, m)
		if len(u.way) < 200 {
			u.way = append(u.way, m)
		}
	}
	return api.OK
}

// look holds a node against what it keeps, and against all others that ever were.
func (u *run) look(i int) {
	n, s := u.nodes[i], u.kept[i]
	if s.Hard() != n.Ballot.Hard || s.Snap() != (api.Snapshot{Mark: n.Log.Base, Text: n.Text}) || !slices.Equal(s.Log(), n.Log.L) {
		u.t.Fatalf("P10.3: node %d is %v, its records make %v, %v, %v", i, brief(n), s.Hard(), s.Snap(), s.Log())
	}
	if n.Ballot.Role == api.RoleLeader {
		if other, ok := u.leaders[n.Ballot.Hard.Term]; ok && other != i {
			u.t.Fatalf("P10.3: %d and %d lead in term %d", i, other, n.Ballot.Hard.Term)
		}
		u.leaders[n.Ballot.Hard.Term] = i
	}
	was, is := u.hards[i], n.Ballot.Hard
	if is.Term < was.Term || is.Term == was.Term && was.Vote != 0 && is.Vote != was.Vote {
		u.t.Fatalf("P10.3: node %d had %v, has %v", i, was, is)
	}
	u.hards[i] = is
	for index := n.Log.Base.Index + 1; index <= n.Log.Commit; index++ {
		e := n.Log.L[index-n.Log.Base.Index-1]
		if known, ok := u.committed[index]; ok && known != e {
			u.t.Fatalf("P10.3: at %d %v was committed, node %d has %v", index, known, i, e)
		}
		u.committed[index] = e
	}
}

// said holds a message against what its sender keeps when it is sent.
func (u *run) said(i int, m api.Msg) {
	s := u.kept[i]
	says := m.Term == s.Hard().Term
	switch m.Kind {
	case api.MsgPoll:
		says = says && s.Hard().Vote == i && m.Prev == entries.Last(logOf(s))
	case api.MsgGrant:
		says = says && (!m.Ok || s.Hard().Vote == m.To)
		if other, ok := u.votes[[2]int{i, m.Term}]; m.Ok && ok && other != m.To {
			u.t.Fatalf("P10.3: in term %d node %d voted for %d and %d", m.Term, i, other, m.To)
		}
		if m.Ok {
			u.votes[[2]int{i, m.Term}] = m.To
		}
	case api.MsgAppend:
		of, ok := entries.TermAt(logOf(s), m.Prev.Index)
		says = says && ok && of == m.Prev.Term && slices.Equal(entries.From(logOf(s), m.Prev.Index+1, len(m.Entries)), m.Entries)
	case api.MsgAppended:
		says = says && (!m.Ok || m.Match <= entries.Last(logOf(s)).Index)
	case api.MsgInstall:
		says = says && s.Snap() == m.Snap
	}
	if !says {
		u.t.Fatalf("P10.3: node %d says %v; it keeps %v, %v, %v", i, brief(m), s.Hard(), s.Snap(), s.Log())
	}
}

func logOf(s *store.Store) api.Log {
	return api.Log{Base: s.Snap().Mark, L: s.Log(), Commit: s.Snap().Mark.Index}
}

// restart lets a node fall and come up with what it kept.
func (u *run) restart(i int, keep []int) {
	u.disks[i].Crash(keep)
	s, e := store.Open(u.disks[i])
	if e != api.OK {
		u.t.Fatalf("S2: %d", e)
	}
	s.Sync()
	u.kept[i] = s
	n, e := raft.Start(i, u.n, s.Hard(), s.Snap(), s.Log())
	if e != api.OK {
		u.t.Fatalf("P10.1: of what was kept: %d", e)
	}
	u.nodes[i] = n
	u.look(i)
}

func (u *run) deliver(at int) {
	m := u.way[at]
	u.way = slices.Delete(u.way, at, at+1)
	if e := u.step(m.To, message(m)); e != api.OK && e != api.ErrRaftFull {
		u.t.Fatalf("P10.2: %v was sent, and is refused: %d", brief(m), e)
	}
}

func (u *run) act() {
	i := 1 + u.r.Intn(u.n)
	switch act := u.r.Intn(100); {
	case act < 70 && len(u.way) > 0:
		u.deliver(min(u.r.Intn(len(u.way)), u.r.Intn(len(u.way))))
	case act < 75 && len(u.way) > 0:
		u.way = slices.Delete(u.way, 0, 1)
	case act < 79 && len(u.way) > 0:
		u.way = append(u.way, u.way[u.r.Intn(len(u.way))])
	case act < 90:
		u.propose()
	case act < 94:
		u.step(i, timeout)
	case act < 97:
		n := u.nodes[i]
		u.step(i, save(n.Log.Base.Index+u.r.Intn(n.Log.Commit-n.Log.Base.Index+1), "all up to some index "+strconv.Itoa(i)))
	default:
		u.restart(i, []int{u.r.Intn(100)})
	}
}

func (u *run) propose() {
	for i := 1; i <= u.n; i++ {
		if u.nodes[i].Ballot.Role == api.RoleLeader {
			u.proposed++
			u.step(i, propose(strconv.Itoa(u.proposed)))
		}
	}
}

// end lets nothing be lost any more: one is asked to lead till it does, then all have the same.
func (u *run) end() {
	settled := func() bool {
		for i := 1; i <= u.n; i++ {
			l := u.nodes[i].Log
			if entries.Last(l) != entries.Last(u.nodes[1].Log) || l.Commit != entries.Last(l).Index || u.nodes[i].Leader == 0 {
				return false
			}
		}
		return true
	}
	for try := range 40 * u.n {
		u.step(1+try%u.n, timeout)
		for beat := 0; beat < 300 && len(u.way) > 0; beat++ {
			u.deliver(0)
		}
		for i := 1; i <= u.n; i++ {
			if u.nodes[i].Ballot.Role == api.RoleLeader {
				u.step(i, timeout)
			}
		}
		for beat := 0; beat < 300 && len(u.way) > 0; beat++ {
			u.deliver(0)
		}
		if settled() {
			return
		}
	}
	u.t.Errorf("P10.2: the nodes do not come to one log: %s", brief(u.nodes))
}

func TestRuns(t *testing.T) {
	committed := 0
	for seed := range int64(150) {
		u := newRun(t, seed, 1+int(seed)%5)
		for range 600 {
			u.act()
			if t.Failed() {
				return
			}
		}
		u.end()
		if t.Failed() {
			return
		}
		committed += len(u.committed)
	}
	if committed < 1000 {
		t.Errorf("only %d entries were committed", committed)
	}
}
