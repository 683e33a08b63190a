package cluster_test

import (
	"slices"
	"testing"

	"rialto/api"
	"rialto/cluster"
	"rialto/group"
	"rialto/shard"
)

var put = api.Request{Kind: api.ReqDeposit, Account: 1, N: 5}

func txn(client, seq int) api.Txn { return api.Txn{Client: client, Seq: seq} }

func TestNew(t *testing.T) {
	for groups := -1; groups <= 6; groups++ {
		for nodes := -1; nodes <= 8; nodes++ {
			for clients := -1; clients <= 8; clients++ {
				config := api.ClusterConfig{Groups: groups, Nodes: nodes, Clients: clients}
				c, e := cluster.New(config)
				if groups >= 1 && groups <= 4 && nodes >= 1 && nodes <= 5 && clients >= 1 && clients <= 6 {
					if e != api.OK {
						t.Fatalf("P24.1: New(%v): %d", config, e)
					}
					holdNew(t, c, config)
				} else if c != nil || e != api.ErrClusterConfig {
					t.Errorf("P24.1: New(%v): %v, %d", config, c, e)
				}
			}
		}
	}
}

func holdNew(t *testing.T, c *cluster.Cluster, config api.ClusterConfig) {
	t.Helper()
	if len(c.Letters())+len(c.Events())+len(c.Marks()) != 0 {
		t.Errorf("P24.1: New(%v): there is something already", config)
	}
	for g := range config.Groups {
		for node := 1; node <= config.Nodes; node++ {
			want, _ := shard.New(g, config.Groups)
			if s, n, up := c.State(g, node); !up || n != 0 || !same(s, want) {
				t.Errorf("P24.1: New(%v): node %d of group %d: %s, %d, %t", config, node, g, brief(s), n, up)
			}
			if x := c.Node(g, node); x.Me != node || x.N != config.Nodes || x.Ballot.Role != api.RoleFollower {
				t.Errorf("P24.1: New(%v): node %d of group %d: %s", config, node, g, brief(x))
			}
		}
		if _, _, up := c.State(g, config.Nodes+1); up {
			t.Errorf("P24.1: New(%v): a node more", config)
		}
	}
	for client := 0; client <= config.Clients+1; client++ {
		want := api.OK
		if client < 1 || client > config.Clients {
			want = api.ErrClusterAct
		}
		if e := c.Do(api.ClusterAct{Kind: api.ClInvoke, Client: client, Req: put}); e != want {
			t.Errorf("P24.1: New(%v): client %d: %d", config, client, e)
		}
	}
	for i, m := range c.Letters() {
		if m.To != (i+1)%config.Groups || m.From != -1 || m.Kind != api.MsgAsk || m.Txn != txn(i+1, 1) || m.Req != put {
			t.Errorf("P24.2: %s", brief(m))
		}
	}
}

// TestRefused: what is wrong is told, the first thing first, and nothing changes.
func TestRefused(t *testing.T) {
	q := newPair(t, 2, 3, 2)
	for _, a := range []api.ClusterAct{
		{}, {Kind: -1}, {Kind: 9}, {Kind: 9, Client: 1, Req: put},
		{Kind: 1}, {Kind: 1, Client: 3, Req: put}, {Kind: 1, Client: -1}, {Kind: 2}, {Kind: 2, Client: 3},
		{Kind: 3, Group: 2, Act: api.GroupAct{Kind: api.GrTick}}, {Kind: 3, Group: -1, Act: api.GroupAct{Kind: api.GrTick}},
		{Kind: 3, Act: api.GroupAct{Kind: api.GrPropose, Node: 1}}, {Kind: 3, Act: api.GroupAct{Kind: api.GrSave, Node: 1}},
		{Kind: 3, Act: api.GroupAct{Kind: api.GrPropose}}, {Kind: 3, Act: api.GroupAct{Kind: api.GrSave, Node: 9}},
		{Kind: 4, Group: 2}, {Kind: 4, Group: -1},
	} {
		q.must(a, api.ErrClusterAct)
	}
	for _, a := range []api.ClusterAct{{Kind: 1, Client: 1}, {Kind: 2, Client: 1}, {Kind: 5}, {Kind: 5, Node: 1}, {Kind: 6}, {Kind: 7}, {Kind: 6, N: -1}} {
		q.must(a, api.ErrArg)
	}
	q.group(1, api.GroupAct{}, api.ErrGroupAct)
	q.group(1, api.GroupAct{Kind: 11, Node: 1}, api.ErrGroupAct)
	q.group(1, api.GroupAct{Kind: api.GrCrash, Node: 4}, api.ErrGroupAct)
	q.group(1, api.GroupAct{Kind: api.GrDraw, Node: 1, N: 2}, api.ErrArg)
	q.group(1, api.GroupAct{Kind: api.GrRestart, Node: 1}, api.ErrArg)
	q.group(1, api.GroupAct{Kind: api.GrDeliver}, api.ErrNetNone)
	q.group(1, api.GroupAct{Kind: api.GrFuse, Node: 1, N: -2}, api.ErrArg)

	q.invoke(2, put)
	q.must(api.ClusterAct{Kind: api.ClInvoke, Client: 2, Req: put}, api.ErrBusy)
	q.must(api.ClusterAct{Kind: api.ClInvoke, Client: 2}, api.ErrArg)
	for kind := api.ClDeliver; kind <= api.ClDouble; kind++ {
		for _, n := range []int{-1, 1, 1 << 40, -1 << 40} {
			q.must(api.ClusterAct{Kind: kind, N: n, Node: 1}, api.ErrArg)
		}
	}
	q.must(api.ClusterAct{Kind: api.ClRetry, Client: 2, Group: 9}, api.OK)
	q.must(api.ClusterAct{Kind: api.ClTick, Group: 1, Client: 9, Node: 9}, api.OK)
	q.must(api.ClusterAct{Kind: api.ClRound, Client: 9, Group: 9, Node: 9}, api.OK)
}

// TestFull: a thousand letters are under way, and no more.
func TestFull(t *testing.T) {
	q := newPair(t, 1, 1, 2)
	q.invoke(1, put)
	for range 999 {
		if e := q.c.Do(api.ClusterAct{Kind: api.ClDouble}); e != q.p.do(api.ClusterAct{Kind: api.ClDouble}) || e != api.OK {
			t.Fatalf("P24.2: %d", e)
		}
	}
	q.must(api.ClusterAct{Kind: api.ClDouble}, api.ErrLong)
	q.must(api.ClusterAct{Kind: api.ClDouble, N: 1000}, api.ErrArg)
	q.invoke(2, put) // it waits, though its letter is lost
	q.must(api.ClusterAct{Kind: api.ClRetry, Client: 1}, api.OK)
	if n := len(q.c.Letters()); n != 1000 {
		t.Fatalf("P24.2: %d letters", n)
	}
	q.must(api.ClusterAct{Kind: api.ClInvoke, Client: 2, Req: put}, api.ErrBusy)
	q.must(api.ClusterAct{Kind: api.ClDrop, N: 999}, api.OK)
	q.must(api.ClusterAct{Kind: api.ClRetry, Client: 2}, api.OK)
	q.rounds(40)
	if l := q.c.Events(); len(l) != 4 {
		t.Errorf("P24.7: %s", brief(l))
	}
}

// TestExample is the chapter's own.
func TestExample(t *testing.T) {
	q := newPair(t, 2, 3, 1)
	if a := q.answered(1, put); a.Code != api.OK {
		t.Errorf("P24.4: %s", brief(a))
	}
	if l := q.c.Marks(); !slices.Equal(l, []api.Mark{{Txn: txn(1, 1), Commit: true}}) {
		t.Errorf("P24.4: %v", l)
	}
	q.rounds(api.Beat + 1)
	for g := range 2 {
		s, n, up := q.c.State(g, 1)
		for node := 2; node <= 3; node++ {
			if x, k, ok := q.c.State(g, node); !up || !ok || k != n || !same(x, s) {
				t.Errorf("P24.5: nodes 1 and %d of group %d: %d and %d entries", node, g, n, k)
			}
		}
	}
}

// TestRooms: a group is one with such disks and such a net as the words say.
func TestRooms(t *testing.T) {
	q := newPair(t, 1, 2, 1)
	q.ticks(0, 11)
	q.group(0, api.GroupAct{Kind: api.GrTick}, api.OK)
	q.group(0, api.GroupAct{Kind: api.GrTick}, api.OK)
	for range 499 {
		q.group(0, api.GroupAct{Kind: api.GrDouble}, api.OK)
	}
	q.group(0, api.GroupAct{Kind: api.GrDouble}, api.ErrNetFull)
}

// TestHand: only who leads takes a letter; what changes its state is an entry first, what does not is told of at once.
func TestHand(t *testing.T) {
	q := newPair(t, 1, 3, 1)
	deliver := func(node int) {
		t.Helper()
		q.must(api.ClusterAct{Kind: api.ClDeliver, Node: node}, api.OK)
	}
	entries := func(want int) {
		t.Helper()
		if n := len(q.c.Node(0, 1).Log.L); n != want {
			t.Fatalf("P24.2: %d entries, want %d", n, want)
		}
	}
	letters := func(kinds ...int) {
		t.Helper()
		var l []int
		for _, m := range q.c.Letters() {
			l = append(l, m.Kind)
		}
		if !slices.Equal(l, kinds) {
			t.Fatalf("P24.2: the letters are of kinds %v, want %v", l, kinds)
		}
	}
	q.invoke(1, put)
	deliver(1) // nobody leads yet
	letters()
	q.ticks(0, 11)
	for _, node := range []int{0, 2, 3, 4, -1} {
		q.must(api.ClusterAct{Kind: api.ClRetry, Client: 1}, api.OK)
		deliver(node)
	}
	entries(1)
	q.must(api.ClusterAct{Kind: api.ClRetry, Client: 1}, api.OK)
	q.must(api.ClusterAct{Kind: api.ClDouble}, api.OK)
	deliver(1)
	entries(2)
	deliver(1) // nothing of it is committed yet, so it would still change the state
	entries(3)
	q.must(api.ClusterAct{Kind: api.ClTick}, api.OK)
	letters()
	q.deliverAll(0)
	q.must(api.ClusterAct{Kind: api.ClRetry, Client: 1}, api.OK)
	deliver(1) // known already
	entries(3)
	q.must(api.ClusterAct{Kind: api.ClTick}, api.OK)
	letters(api.MsgPrepare)
	deliver(1)
	q.deliverAll(0)
	q.must(api.ClusterAct{Kind: api.ClTick}, api.OK)
	letters(api.MsgPrepare, api.MsgVote)
	q.must(api.ClusterAct{Kind: api.ClDrop}, api.OK)
	deliver(1)
	if len(q.c.Marks()) != 0 {
		t.Error("P24.2: it is marked, and not committed")
	}
	q.deliverAll(0)
	if len(q.c.Marks()) != 1 {
		t.Errorf("P24.2: the marks are %v", q.c.Marks())
	}
	q.must(api.ClusterAct{Kind: api.ClTick}, api.OK)
	letters(api.MsgFinish, api.MsgVote)
	q.must(api.ClusterAct{Kind: api.ClDrop, N: 1}, api.OK)
	q.must(api.ClusterAct{Kind: api.ClDouble}, api.OK)
	deliver(1)
	q.deliverAll(0)
	letters(api.MsgFinish, api.MsgAck)
	deliver(1)
	letters(api.MsgAck, api.MsgAck)
	entries(6)
	deliver(1)
	q.deliverAll(0)
	letters(api.MsgAck, api.MsgAnswer)
	deliver(1) // that is nothing new
	q.must(api.ClusterAct{Kind: api.ClRetry, Client: 1}, api.OK)
	deliver(9) // an answer goes to its client, whatever node is named
	letters(api.MsgAsk)
	q.must(api.ClusterAct{Kind: api.ClRetry, Client: 1}, api.ErrArg)
	q.must(api.ClusterAct{Kind: api.ClDouble}, api.OK)
	q.ticks(0, api.Beat)
	deliver(2) // who follows knows it too, and tells nothing
	letters(api.MsgAsk)
	deliver(1)
	letters(api.MsgAnswer)
	entries(7)
	if l := q.c.Events(); len(l) != 2 || !l[1].Answered || l[1].At != 1 {
		t.Errorf("P24.3: %s", brief(l))
	}
}

// TestRefusedProposal: what its group refuses is no error of a letter's.
func TestRefusedProposal(t *testing.T) {
	q := newPair(t, 1, 1, 1)
	q.ticks(0, 11)
	q.invoke(1, put)
	q.group(0, api.GroupAct{Kind: api.GrFuse, Node: 1}, api.OK)
	q.must(api.ClusterAct{Kind: api.ClDeliver, Node: 1}, api.OK)
	if _, _, up := q.c.State(0, 1); up || len(q.c.Letters()) != 0 {
		t.Error("P24.2: its disk is down, and it proposed")
	}
	q.must(api.ClusterAct{Kind: api.ClRetry, Client: 1}, api.OK)
	q.must(api.ClusterAct{Kind: api.ClDeliver, Node: 1}, api.OK)
	q.must(api.ClusterAct{Kind: api.ClTick}, api.OK)
	q.group(0, api.GroupAct{Kind: api.GrRestart, Node: 1}, api.ErrDiskDown)
	q.group(0, api.GroupAct{Kind: api.GrFuse, Node: 1, N: -1}, api.OK)
	q.group(0, api.GroupAct{Kind: api.GrRestart, Node: 1}, api.OK)
	q.rounds(16)
	if l := q.c.Events(); len(l) != 2 || l[1].Answer.Code != api.OK {
		t.Errorf("P24.7: %s", brief(l))
	}
}

// TestFullLog: with a full log letters are lost, and no call minds.
func TestFullLog(t *testing.T) {
	c, _ := cluster.New(api.ClusterConfig{Groups: 1, Nodes: 1, Clients: 1})
	for range 1500 {
		if e := c.Do(api.ClusterAct{Kind: api.ClInvoke, Client: 1, Req: put}); e != api.OK && e != api.ErrBusy {
			t.Fatalf("P24.2: %d", e)
		}
		if e := c.Do(api.ClusterAct{Kind: api.ClRound}); e != api.OK {
			t.Fatalf("P24.2: %d", e)
		}
	}
	n := len(c.Node(0, 1).Log.L)
	if _, taken, up := c.State(0, 1); n != api.MaxLog || taken != n || !up {
		t.Errorf("P24.2: %d entries, %d taken in, %t", n, taken, up)
	}
	if n := len(c.Marks()); n < 70 {
		t.Errorf("P24.2: %d marks", n)
	}
}

// TestAnew: a node that comes up takes all in again: what that tells is told again, if it leads, and marked once.
func TestAnew(t *testing.T) {
	q := newPair(t, 1, 1, 2)
	q.answered(1, put)
	q.answered(1, api.Request{Kind: api.ReqWithdraw, Account: 1, N: 6})
	was, taken, _ := q.c.State(0, 1)
	marks := q.c.Marks()
	if len(marks) != 2 || marks[0].Commit == marks[1].Commit {
		t.Fatalf("P24.2: the marks are %v", marks)
	}
	q.group(0, api.GroupAct{Kind: api.GrCrash, Node: 1}, api.OK)
	if s, n, up := q.c.State(0, 1); up || n != 0 || !same(s, api.Shard{}) || q.c.Node(0, 1).Me != 0 {
		t.Errorf("P24.3: %s, %d, %t", brief(s), n, up)
	}
	q.group(0, api.GroupAct{Kind: api.GrRestart, Node: 1}, api.OK)
	begun, _ := shard.New(0, 1)
	if s, n, up := q.c.State(0, 1); !up || n != 0 || !same(s, begun) {
		t.Errorf("P24.2: a node that comes up is %s, %d, %t", brief(s), n, up)
	}
	q.ticks(0, 11)
	if s, n, _ := q.c.State(0, 1); n != taken+1 || !same(s, was) {
		t.Errorf("P24.5: %d entries, %s", n, brief(s))
	}
	answers := 0
	for _, m := range q.c.Letters() {
		if m.Kind == api.MsgAnswer {
			answers++
		}
	}
	if answers != 2 || !slices.Equal(q.c.Marks(), marks) {
		t.Errorf("P24.2: %d answers were told again, the marks are %v", answers, q.c.Marks())
	}
}

// TestSuccessor: a leader falls behind a decision, and its successor tells it again.
func TestSuccessor(t *testing.T) {
	q := newPair(t, 2, 3, 1)
	q.rounds(12)
	old := q.leader(1)
	q.invoke(1, put) // client 1 and account 1 are at home in group 1
	for n := 0; len(q.c.Marks()) == 0 && n < 20; n++ {
		q.rounds(1)
	}
	if l := q.c.Events(); l[len(l)-1].Answered {
		t.Fatal("it was answered in the round in which it was decided")
	}
	q.group(1, api.GroupAct{Kind: api.GrCrash, Node: old}, api.OK)
	q.rounds(60)
	if l := q.c.Events(); len(l) != 2 || l[1].Answer.Code != api.OK || len(q.c.Marks()) != 1 || q.leader(1) == old {
		t.Errorf("P24.4: %s, marks %v, %d leads", brief(l), q.c.Marks(), q.leader(1))
	}
}

// TestTwoLeaders: one that was left behind still thinks that it leads: what it knows it tells, and what it is handed it proposes in vain.
func TestTwoLeaders(t *testing.T) {
	q := newPair(t, 1, 3, 1)
	apart := func() { // node 1 is cut off
		t.Helper()
		for l := q.p.groups[0].Net(); len(l) > 0; l = q.p.groups[0].Net() {
			kind := api.GrDeliver
			if l[0].From == 1 || l[0].To == 1 {
				kind = api.GrDrop
			}
			q.group(0, api.GroupAct{Kind: kind}, api.OK)
		}
	}
	q.ticks(0, 11)
	q.invoke(1, put)
	q.must(api.ClusterAct{Kind: api.ClDeliver, Node: 1}, api.OK)
	q.deliverAll(0)
	q.ticks(0, 2)
	for n := 0; !q.p.leads(0, 2) && n < 50; n++ {
		q.group(0, api.GroupAct{Kind: api.GrTick}, api.OK)
		apart()
	}
	if !q.p.leads(0, 1) {
		t.Fatal("node 1 knows that it leads no more")
	}
	q.must(api.ClusterAct{Kind: api.ClTick}, api.OK)
	if n := len(q.c.Letters()); n != 2 { // two MsgPrepare
		t.Fatalf("P24.2: %d letters, where two think that they lead", n)
	}
	q.must(api.ClusterAct{Kind: api.ClDeliver, Node: 2}, api.OK)
	apart()
	q.must(api.ClusterAct{Kind: api.ClDeliver, Node: 1}, api.OK)
	apart()
	if _, n, _ := q.c.State(0, 1); n != 2 || len(q.c.Node(0, 1).Log.L) != 3 {
		t.Errorf("P24.2: %d were taken in", n)
	}
	q.must(api.ClusterAct{Kind: api.ClTick}, api.OK)
	var kinds []int
	for _, m := range q.c.Letters() {
		kinds = append(kinds, m.Kind)
	}
	if !slices.Equal(kinds, []int{api.MsgPrepare, api.MsgPrepare, api.MsgVote}) { // node 1 has not heard of the pend
		t.Errorf("P24.2: the letters are of kinds %v", kinds)
	}
	q.rounds(30)
	if l := q.c.Events(); len(l) != 2 || l[1].Answer.Code != api.OK || len(q.c.Marks()) != 1 {
		t.Errorf("P24.4: %s, marks %v", brief(l), q.c.Marks())
	}
}

// TestNames: of what is not there nothing is told, whatever its number is.
func TestNames(t *testing.T) {
	q := newPair(t, 2, 2, 1)
	for _, g := range []int{-1 << 62, -1, 2, 1 << 62} {
		for _, node := range []int{-1, 0, 1, 2, 3} {
			if s, n, up := q.c.State(g, node); up || n != 0 || !same(s, api.Shard{}) || !same(q.c.Node(g, node), api.Node{}) {
				t.Errorf("P24.3: node %d of group %d", node, g)
			}
		}
	}
	for _, node := range []int{-1 << 62, -1, 0, 3, 1 << 62} {
		if s, n, up := q.c.State(1, node); up || n != 0 || !same(s, api.Shard{}) || !same(q.c.Node(1, node), api.Node{}) {
			t.Errorf("P24.3: node %d", node)
		}
		q.invoke(1, put)
		q.must(api.ClusterAct{Kind: api.ClDeliver, Node: node}, api.OK)
		q = newPair(t, 2, 2, 1)
	}
}

// TestMemory: what is told is nobody else's, and what was handed in is not kept.
func TestMemory(t *testing.T) {
	q := newPair(t, 2, 3, 2)
	q.answered(1, put)
	q.answered(1, api.Request{Kind: api.ReqRead, Account: 1})
	q.invoke(2, api.Request{Kind: api.ReqMove, Key: api.Key{Kind: api.KeyAccount, N: 1}})
	cells := 0
	for range 200 {
		for g := range 2 {
			q.must(api.ClusterAct{Kind: api.ClTick, Group: g}, api.OK)
		}
		for _, m := range q.c.Letters() {
			for i := range m.Cells {
				cells++
				m.Cells[i].Account.Free[0].N = 99
				m.Cells[i].Version = 99
			}
		}
		clear(q.c.Letters())
		for _, e := range q.c.Events() {
			clear(e.Answer.Amounts)
		}
		clear(q.c.Events())
		clear(q.c.Marks())
		for g := range 2 {
			for node := 1; node <= 3; node++ {
				s, _, _ := q.c.State(g, node)
				for _, c := range s.Part.Cells {
					clear(c.Account.Free)
				}
				clear(s.Part.Cells)
				clear(s.Part.Done)
				clear(s.Sessions)
				clear(q.c.Node(g, node).Log.L)
			}
		}
		q.hold("what is told was changed")
		for len(q.p.way) > 0 && q.p.waits[2] {
			to := max(0, q.p.way[0].To)
			q.must(api.ClusterAct{Kind: api.ClDeliver, Node: q.leader(to)}, api.OK)
			q.deliverAll(to)
		}
		if !q.p.waits[2] {
			break
		}
	}
	if cells == 0 || q.p.waits[2] {
		t.Fatalf("%d cells were under way", cells)
	}
	keep := []int{3}
	q.group(0, api.GroupAct{Kind: api.GrCrash, Node: 1, Keep: keep}, api.OK)
	if keep[0] != 3 {
		t.Error("R5: what was handed in is another one")
	}
}

// TestAsGroup: what happens in a group is what happens in one that stands alone.
func TestAsGroup(t *testing.T) {
	q := newPair(t, 1, 3, 1)
	alone, _ := group.New(api.GroupConfig{Nodes: 3, Disk: 1048576, Room: 500})
	for i := range 200 {
		a := api.GroupAct{Kind: []int{api.GrTick, api.GrDeliver, api.GrDeliver, api.GrDouble, api.GrDeliver, api.GrDeliver}[i%6], Node: 1 + i%3}
		if i%50 == 49 {
			a.Kind = api.GrCrash
		}
		if i%70 == 69 {
			a.Kind = api.GrRestart
		}
		_, e := alone.Do(a)
		q.group(0, a, e)
		for node := 1; node <= 3; node++ {
			if !same(q.c.Node(0, node), alone.Node(node)) {
				t.Fatalf("P24.2: behind %s node %d is %s, want %s", brief(a), node, brief(q.c.Node(0, node)), brief(alone.Node(node)))
			}
		}
	}
}
