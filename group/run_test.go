package group_test

import (
	"math/rand"
	"slices"
	"strconv"
	"testing"

	"rialto/api"
	"rialto/entries"
	"rialto/group"
	"rialto/net"
	"rialto/raft"
)

// Groups with packets lost, doubled and late, and with crashes, fuses and torn writes: what P11.4 to P11.8 say follows.

type run struct {
	t *testing.T
	r *rand.Rand
	g *group.Group
	n int

	draws     []int             // by nodes
	most      int               // the greatest draw that ever was: timers may still stand by it
	leaders   map[int]int       // who leads, by terms
	committed map[int]api.Entry // what was ever known, by indices
	fallen    []fallen          // by nodes
	told      []told            // by nodes
	proposed  int
	restarts  int // that found more than was safe
}

// fallen is a node as it was last, and what it was to keep when it fell.
type fallen struct {
	node    api.Node
	records []api.Record
}

// told is what a node told others.
type told struct {
	term  int
	votes map[int]int // by terms
	term2 int         // in which it told of entries
	had   map[int]int // of these the terms, by indices
}

func newRun(t *testing.T, seed int64, n int) *run {
	u := &run{t: t, r: rand.New(rand.NewSource(seed)), n: n, draws: make([]int, n+1), leaders: map[int]int{}, committed: map[int]api.Entry{}, fallen: make([]fallen, n+1), told: make([]told, n+1)}
	u.g, _ = group.New(api.GroupConfig{Nodes: n, Disk: 1 << 20, Room: 60})
	for i := 1; i <= n; i++ {
		u.draws[i] = 10 + i
		u.most = 10 + i
		u.told[i].votes = map[int]int{}
	}
	return u
}

// do does an act, and looks at all that follows from it.
func (u *run) do(a api.GroupAct) api.Errno {
	ahead := make([]api.Node, u.n+1)
	for i := 1; i <= u.n; i++ {
		ahead[i] = u.g.Node(i)
	}
	way := u.g.Net()
	_, e := u.g.Do(a)
	for i := 1; i <= u.n; i++ {
		if ahead[i].Me != 0 && !u.g.Up(i) {
			u.fallen[i] = u.fell(ahead[i], a, way)
		}
		if ahead[i].Me == 0 && u.g.Up(i) {
			u.cameUp(i)
		}
		u.look(i)
	}
	left := len(way)
	if e != api.ErrNetNone && (a.Kind == api.GrDeliver || a.Kind == api.GrDrop) {
		left--
	}
	if a.Kind != api.GrDouble {
		for _, p := range u.g.Net()[left:] {
			u.heard(p)
		}
	}
	u.match()
	return e
}

// fell works out what a node would have kept, had its disk not gone down.
func (u *run) fell(n api.Node, a api.GroupAct, way []api.Packet) fallen {
	var e api.NodeEvent
	switch a.Kind {
	case api.GrTick:
		e = api.NodeEvent{Kind: api.EvTimeout}
	case api.GrPropose:
		e = api.NodeEvent{Kind: api.EvPropose, Text: a.Text}
	case api.GrSave:
		e = api.NodeEvent{Kind: api.EvSave, Index: a.N, Text: a.Text}
	case api.GrDeliver:
		m, _ := net.Decode(way[a.N].Text)
		e = api.NodeEvent{Kind: api.EvMessage, Msg: m}
	default:
		return fallen{node: n}
	}
	_, out, errno := raft.Step(n, e)
	if errno != api.OK || len(out.Records) == 0 {
		u.t.Fatalf("P11.2: %s lets node %d fall, which has nothing to keep: %d", brief(a), n.Me, errno)
	}
	return fallen{n, out.Records}
}

// cameUp holds a node that comes up against what it was last, and some of the records, in their order, that it was about to keep.
func (u *run) cameUp(i int) {
	is, was := u.g.Node(i), u.fallen[i]
	want := was.node
	found := keeps(is, want)
	for k := 0; k < len(was.records) && !found; k++ {
		want = turned(want, was.records[k])
		found = keeps(is, want)
		u.restarts++
	}
	if !found {
		u.t.Fatalf("P11.8: node %d was %s, to keep %s, comes up as %s", i, brief(was.node), brief(was.records), brief(is))
	}
	said := u.told[i]
	if vote, ok := said.votes[is.Ballot.Hard.Term]; is.Ballot.Hard.Term < said.term || ok && vote != is.Ballot.Hard.Vote {
		u.t.Fatalf("P11.8: node %d told of term %d and the votes %v, comes up with %v", i, said.term, said.votes, is.Ballot.Hard)
	}
	for index, term := range said.had {
		if has, ok := entries.TermAt(is.Log, index); said.term2 == is.Ballot.Hard.Term && index > is.Log.Base.Index && (!ok || has != term) {
			u.t.Fatalf("P11.8: node %d told of an entry at %d of term %d, comes up with %s", i, index, term, brief(is.Log))
		}
	}
	if is.Ballot.Role != api.RoleFollower || is.Leader != 0 || is.Log.Commit != is.Log.Base.Index {
		u.t.Fatalf("P11.2: node %d comes up as %s", i, brief(is))
	}
}

func keeps(a, b api.Node) bool {
	return a.Ballot.Hard == b.Ballot.Hard && a.Log.Base == b.Log.Base && a.Text == b.Text && slices.Equal(a.Log.L, b.Log.L)
}

// turned is what a record makes of what a node keeps.
func turned(n api.Node, r api.Record) api.Node {
	base := n.Log.Base.Index
	switch r.Kind {
	case api.RecHard:
		n.Ballot.Hard = r.Hard
	case api.RecTail:
		n.Log.L = slices.Concat(n.Log.L[:r.At-base-1], r.Entries)
	case api.RecSnap:
		behind := r.Snap.Mark.Index - base
		if behind > len(n.Log.L) || n.Log.L[behind-1].Term != r.Snap.Mark.Term {
			n.Log.L = nil
		} else {
			n.Log.L = n.Log.L[behind:]
		}
		n.Log.Base, n.Text = r.Snap.Mark, r.Snap.Text
	}
	return n
}

// heard keeps what a packet tells of its sender, as it is when it tells it.
func (u *run) heard(p api.Packet) {
	m, e := net.Decode(p.Text)
	if e != api.OK || m.From != p.From || m.To != p.To {
		u.t.Fatalf("P11.2: %v is %s, %d", p, brief(m), e)
	}
	n, said := u.g.Node(m.From), &u.told[m.From]
	said.term = max(said.term, m.Term)
	vote := 0
	switch {
	case m.Kind == api.MsgPoll:
		vote = m.From
	case m.Kind == api.MsgGrant && m.Ok:
		vote = m.To
	case m.Kind == api.MsgAppended && m.Ok:
		said.term2, said.had = m.Term, map[int]int{}
		for index := n.Log.Base.Index + 1; index <= m.Match; index++ {
			said.had[index], _ = entries.TermAt(n.Log, index)
		}
	}
	if other, ok := said.votes[m.Term]; vote != 0 && ok && other != vote {
		u.t.Fatalf("P11.4: in term %d node %d voted for %d and %d", m.Term, m.From, other, vote)
	}
	if vote != 0 {
		said.votes[m.Term] = vote
	}
}

// look holds a node against all that was ever known.
func (u *run) look(i int) {
	n := u.g.Node(i)
	if n.Ballot.Role == api.RoleLeader {
		if other, ok := u.leaders[n.Ballot.Hard.Term]; ok && other != i {
			u.t.Fatalf("P11.4: %d and %d lead in term %d", i, other, n.Ballot.Hard.Term)
		}
		u.leaders[n.Ballot.Hard.Term] = i
	}
	for k, e := range u.g.Known(i) {
		index := n.Log.Base.Index + 1 + k
		if known, ok := u.committed[index]; ok && known != e {
			u.t.Fatalf("P11.6: at %d %v was known, node %d knows %v", index, known, i, e)
		}
		u.committed[index] = e
	}
	if n.Text != u.textAt(n.Log.Base.Index) || n.Log.Base.Term != u.committed[n.Log.Base.Index].Term {
		u.t.Fatalf("P11.6: node %d has the snapshot %v %q, known is %q", i, n.Log.Base, n.Text, u.textAt(n.Log.Base.Index))
	}
}

// textAt is what a snapshot says that stands for all up to an index: all that was known there.
func (u *run) textAt(index int) string {
	text := ""
	for i := 1; i <= index; i++ {
		text += u.committed[i].Text + ","
	}
	return text
}

// match holds each two nodes against each other.
func (u *run) match() {
	for i := 1; i <= u.n; i++ {
		for j := i + 1; j <= u.n; j++ {
			if u.g.Up(i) && u.g.Up(j) {
				u.matchTwo(u.g.Node(i).Log, u.g.Node(j).Log)
			}
		}
	}
}

func (u *run) matchTwo(a, b api.Log) {
	least := max(a.Base.Index, b.Base.Index) + 1
	alike := false // at an index behind
	for index := min(entries.Last(a).Index, entries.Last(b).Index); index >= least; index-- {
		x, y := a.L[index-a.Base.Index-1], b.L[index-b.Base.Index-1]
		alike = alike || x.Term == y.Term
		if alike && x != y {
			u.t.Fatalf("P11.5: at %d: %v and %v", index, x, y)
		}
	}
}

func (u *run) act() {
	i := 1 + u.r.Intn(u.n)
	under := len(u.g.Net())
	switch n := u.r.Intn(200); {
	case n < 50:
		u.do(api.GroupAct{Kind: api.GrTick})
	case n < 150 && under > 0:
		u.do(api.GroupAct{Kind: api.GrDeliver, N: min(u.r.Intn(under), u.r.Intn(under))})
	case n < 154 && under > 0:
		u.do(api.GroupAct{Kind: api.GrDrop, N: u.r.Intn(under)})
	case n < 158 && under > 0:
		u.do(api.GroupAct{Kind: api.GrDouble, N: u.r.Intn(under)})
	case n < 178:
		u.propose()
	case n < 181:
		u.do(api.GroupAct{Kind: api.GrFuse, Node: i, N: u.r.Intn(5)})
	case n < 184:
		u.do(api.GroupAct{Kind: api.GrCrash, Node: i, Keep: []int{u.r.Intn(60), u.r.Intn(60)}})
	case n < 185:
		u.do(api.GroupAct{Kind: api.GrFuse, Node: i, N: -1})
	case n < 193:
		u.do(api.GroupAct{Kind: api.GrRestart, Node: i})
	case n < 195:
		u.draw(i, 3+u.r.Intn(20))
	default:
		u.save(i)
	}
}

func (u *run) draw(i int, n int) {
	u.draws[i] = n
	u.most = max(u.most, n)
	u.do(api.GroupAct{Kind: api.GrDraw, Node: i, N: n})
}

func (u *run) propose() {
	for i := 1; i <= u.n; i++ {
		if u.g.Node(i).Ballot.Role == api.RoleLeader {
			u.proposed++
			u.do(api.GroupAct{Kind: api.GrPropose, Node: i, Text: strconv.Itoa(u.proposed)})
		}
	}
}

func (u *run) save(i int) {
	l := u.g.Node(i).Log
	index := l.Base.Index + u.r.Intn(l.Commit-l.Base.Index+1)
	u.do(api.GroupAct{Kind: api.GrSave, Node: i, N: index, Text: u.textAt(index)})
}

func (u *run) rounds(n int) {
	for range n {
		u.g.Do(api.GroupAct{Kind: api.GrTick})
		for len(u.g.Net()) > 0 {
			u.g.Do(api.GroupAct{Kind: api.GrDeliver})
		}
	}
}

// end lets nothing fall or be lost any more. The draws are primes: where one is another one's multiple, two nodes may stand at the same ticks for ever.
func (u *run) end() {
	for i := 1; i <= u.n; i++ {
		u.do(api.GroupAct{Kind: api.GrFuse, Node: i, N: -1})
		if !u.g.Up(i) && u.do(api.GroupAct{Kind: api.GrRestart, Node: i}) != api.OK {
			u.t.Fatalf("P11.2: node %d does not come up", i)
		}
	}
	primes := []int{3, 5, 7, 11, 13, 17, 19, 23, 29, 31}
	for i, k := range u.r.Perm(len(primes))[:u.n] {
		u.draw(i+1, primes[k])
	}
	u.rounds(2*u.most + 60)
	u.settled()
	u.rounds(api.Beat)
	u.settled()
}

// settled: one leads, and all have the same log, all of it committed.
func (u *run) settled() {
	leads := 0
	last := entries.Last(u.g.Node(1).Log)
	for i := 1; i <= u.n; i++ {
		u.look(i)
		n := u.g.Node(i)
		if n.Ballot.Role == api.RoleLeader {
			leads++
		}
		if entries.Last(n.Log) != last || n.Log.Commit != last.Index {
			u.t.Fatalf("P11.7: node %d has %v, committed %d, node 1 %v", i, entries.Last(n.Log), n.Log.Commit, last)
		}
	}
	if leads != 1 {
		u.t.Fatalf("P11.7: %d lead", leads)
	}
	u.match()
}

func TestRuns(t *testing.T) {
	committed, restarts := 0, 0
	for seed := range int64(140) {
		u := newRun(t, seed, 1+int(seed)%7)
		for range 1200 {
			u.act()
		}
		u.end()
		committed += len(u.committed)
		restarts += u.restarts
	}
	if committed < 2000 || restarts < 50 {
		t.Errorf("only %d entries were committed, %d restarts found more than was safe", committed, restarts)
	}
}
