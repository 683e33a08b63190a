package group_test

import (
	"math"
	"slices"
	"strings"
	"testing"

	"rialto/api"
	"rialto/group"
	"rialto/net"
	"rialto/raft"
)

var three = api.GroupConfig{Nodes: 3, Disk: 100000, Room: 100}

var anyNumbers = []int{math.MinInt, -1000, -2, -1, 0, 1, 2, 3, 7, 8, 1000, 1001, math.MaxInt}

func TestNew(t *testing.T) {
	for _, c := range []api.GroupConfig{
		{},
		{Nodes: 0, Disk: 1000, Room: 10},
		{Nodes: -1, Disk: 1000, Room: 10},
		{Nodes: 8, Disk: 1000, Room: 10},
		{Nodes: math.MinInt, Disk: 1000, Room: 10},
		{Nodes: math.MaxInt, Disk: 1000, Room: 10},
		{Nodes: 3, Disk: 255, Room: 10},
		{Nodes: 3, Disk: 1<<20 + 1, Room: 10},
		{Nodes: 3, Disk: math.MinInt, Room: 10},
		{Nodes: 3, Disk: math.MaxInt, Room: 10},
		{Nodes: 3, Disk: 1000, Room: 0},
		{Nodes: 3, Disk: 1000, Room: 3001},
		{Nodes: 3, Disk: 1000, Room: math.MinInt},
		{Nodes: 3, Disk: 1000, Room: math.MaxInt},
	} {
		if g, e := group.New(c); g != nil || e != api.ErrArg {
			t.Errorf("P11.1: New(%v): %v, %d", c, g, e)
		}
	}
	for nodes := 1; nodes <= 7; nodes++ {
		for _, c := range []api.GroupConfig{{Nodes: nodes, Disk: 256, Room: 1}, {Nodes: nodes, Disk: 1 << 20, Room: 3000}} {
			g, e := group.New(c)
			if e != api.OK {
				t.Fatalf("P11.1: New(%v): %d", c, e)
			}
			for i := 1; i <= nodes; i++ {
				want, _ := raft.Start(i, nodes, api.Hard{}, api.Snapshot{}, nil)
				if !g.Up(i) || !sameNode(g.Node(i), want) || len(g.Known(i)) != 0 {
					t.Errorf("P11.1: New(%v): node %d is %v", c, i, g.Node(i))
				}
			}
			if len(g.Net()) != 0 {
				t.Errorf("P11.1: New(%v): %v", c, g.Net())
			}
		}
	}
}

// TestFirstTimers lets nothing arrive: each node's timer is due at the tick 10 and its number, and as much later again.
func TestFirstTimers(t *testing.T) {
	q := newPair(t, api.GroupConfig{Nodes: 7, Disk: 10000, Room: 100})
	for tick := 1; tick <= 60; tick++ {
		q.ticks(1)
		for i := 1; i <= 7; i++ {
			if term := q.g.Node(i).Ballot.Hard.Term; term != tick/(10+i) {
				t.Fatalf("P11.1, P11.2: at tick %d node %d has the term %d", tick, i, term)
			}
		}
		q.dropAll()
	}
}

func TestStrangeActs(t *testing.T) {
	q := newPair(t, three)
	for _, n := range anyNumbers {
		for _, kind := range []int{math.MinInt, -1, 0, 11, 12, math.MaxInt} {
			q.must(api.GroupAct{Kind: kind, Node: 1, N: n}, api.ErrGroupAct)
		}
		for _, node := range []int{math.MinInt, -1, 0, 4, 7, math.MaxInt} {
			for _, kind := range []int{api.GrDraw, api.GrPropose, api.GrFuse, api.GrCrash, api.GrRestart, api.GrSave} {
				q.must(api.GroupAct{Kind: kind, Node: node, N: n, Text: strings.Repeat("x", 60000)}, api.ErrGroupAct)
			}
			for _, kind := range []int{api.GrDeliver, api.GrDrop, api.GrDouble} {
				q.must(api.GroupAct{Kind: kind, Node: node, N: n}, api.ErrNetNone)
			}
		}
	}
	for _, node := range []int{math.MinInt, -1, 0, 4, math.MaxInt} {
		if q.g.Up(node) || !sameNode(q.g.Node(node), api.Node{}) || len(q.g.Known(node)) != 0 {
			t.Errorf("P11.3: there is no node %d", node)
		}
	}
	q.must(api.GroupAct{Kind: api.GrTick, Node: 99, N: -7}, api.OK)
	q.ticks(10)
	if len(q.g.Net()) != 2 {
		t.Errorf("P11.2: a tick that names a node is one: %v", q.g.Net())
	}
}

func TestExamples(t *testing.T) {
	q := newPair(t, three)
	q.ticks(10)
	if l := q.g.Net(); len(l) != 0 {
		t.Fatalf("P11.2: behind ten ticks: %v", l)
	}
	q.ticks(1)
	var want []api.Packet
	for to := 2; to <= 3; to++ {
		text, _ := net.Encode(api.Msg{Kind: api.MsgPoll, From: 1, To: to, Term: 1})
		want = append(want, api.Packet{From: 1, To: to, Text: text})
	}
	if l := q.g.Net(); !slices.Equal(l, want) {
		t.Fatalf("P11.2: behind eleven ticks: %v", l)
	}
	q.deliverAll()
	if q.role(1) != api.RoleLeader {
		t.Fatalf("P11.2: %v", q.g.Node(1))
	}
	if at := q.must(api.GroupAct{Kind: api.GrPropose, Node: 1, Text: "a"}, api.OK); at != 2 {
		t.Errorf("P11.2: the index is %d", at)
	}
	q.deliverAll()
	both := []api.Entry{{Term: 1, Kind: api.EntryStart}, {Term: 1, Kind: api.EntryCommand, Text: "a"}}
	if l := q.g.Known(1); !slices.Equal(l, both) {
		t.Errorf("P11.3: %v", l)
	}
	q.must(api.GroupAct{Kind: api.GrPropose, Node: 2, Text: "b"}, api.ErrRaftLeader)
	q.must(api.GroupAct{Kind: api.GrCrash, Node: 1}, api.OK)
	q.must(api.GroupAct{Kind: api.GrRestart, Node: 1}, api.OK)
	n := q.g.Node(1)
	if n.Ballot.Role != api.RoleFollower || n.Ballot.Hard != (api.Hard{Term: 1, Vote: 1}) || !slices.Equal(n.Log.L, both) {
		t.Errorf("P11.8: %v", n)
	}
}

// lead makes node 1 the leader, with all that it said having arrived.
func lead(t *testing.T, c api.GroupConfig) *pair {
	t.Helper()
	q := newPair(t, c)
	q.rounds(11)
	if q.role(1) != api.RoleLeader {
		t.Fatalf("P11.2: %v", q.g.Node(1))
	}
	return q
}

func TestDraw(t *testing.T) {
	q := newPair(t, three)
	for _, n := range anyNumbers {
		want := api.ErrArg
		if n >= 3 && n <= 1000 {
			want = api.OK
		}
		q.must(api.GroupAct{Kind: api.GrDraw, Node: 3, N: n}, want)
	}
	q.must(api.GroupAct{Kind: api.GrDraw, Node: 1, N: 3}, api.OK)
	for tick := 1; tick <= 30; tick++ {
		q.ticks(1)
		q.dropAll()
		want := 0
		if tick >= 11 {
			want = 1 + (tick-11)/3
		}
		if term := q.g.Node(1).Ballot.Hard.Term; term != want {
			t.Fatalf("P11.2: the timer that was set goes on: at tick %d the term is %d", tick, term)
		}
	}
}

// TestFarDraw lets a node wait as long as may be, from its restart on, though it was down when its draw was told.
func TestFarDraw(t *testing.T) {
	q := newPair(t, api.GroupConfig{Nodes: 1, Disk: 10000, Room: 1})
	q.must(api.GroupAct{Kind: api.GrCrash, Node: 1}, api.OK)
	q.must(api.GroupAct{Kind: api.GrDraw, Node: 1, N: 1000}, api.OK)
	q.ticks(50)
	q.must(api.GroupAct{Kind: api.GrRestart, Node: 1}, api.OK)
	q.ticks(999)
	if q.role(1) != api.RoleFollower {
		t.Error("P11.2: it leads too soon")
	}
	q.ticks(1)
	if q.role(1) != api.RoleLeader {
		t.Error("P11.2: it does not lead")
	}
}

func TestBeat(t *testing.T) {
	q := lead(t, three)
	for tick := 1; tick <= 9; tick++ {
		q.ticks(1)
		if n := len(q.g.Net()); n != 2*(1-tick%2) {
			t.Errorf("P11.2: at tick %d the leader has sent %d", tick, n)
		}
		q.deliverAll()
	}
}

// TestPropose: what is answered is the index, and 0 with an error.
func TestPropose(t *testing.T) {
	q := lead(t, three)
	for i := 2; i <= 5; i++ {
		if at := q.must(api.GroupAct{Kind: api.GrPropose, Node: 1, Text: strings.Repeat("x", 4000)}, api.OK); at != i {
			t.Errorf("P11.2: %d, want %d", at, i)
		}
	}
	for _, c := range []struct {
		node int
		text string
		e    api.Errno
	}{
		{1, strings.Repeat("x", 4001), api.ErrLong},
		{2, strings.Repeat("x", 4001), api.ErrRaftLeader},
		{3, "", api.ErrRaftLeader},
	} {
		if at := q.must(api.GroupAct{Kind: api.GrPropose, Node: c.node, Text: c.text}, c.e); at != 0 {
			t.Errorf("R3: %d", at)
		}
	}
	q.must(api.GroupAct{Kind: api.GrCrash, Node: 1}, api.OK)
	q.must(api.GroupAct{Kind: api.GrPropose, Node: 1, Text: strings.Repeat("x", 4001)}, api.ErrDiskDown)
}

func TestPackets(t *testing.T) {
	q := newPair(t, api.GroupConfig{Nodes: 4, Disk: 10000, Room: 4})
	q.ticks(11)
	polls := q.g.Net()
	if len(polls) != 3 {
		t.Fatalf("P11.2: %v", polls)
	}
	for _, kind := range []int{api.GrDeliver, api.GrDrop, api.GrDouble} {
		for _, n := range []int{math.MinInt, -1, 3, math.MaxInt} {
			q.must(api.GroupAct{Kind: kind, N: n}, api.ErrNetNone)
		}
	}
	q.must(api.GroupAct{Kind: api.GrDouble, N: 1}, api.OK)
	q.must(api.GroupAct{Kind: api.GrDouble, N: 1}, api.ErrNetFull)
	q.must(api.GroupAct{Kind: api.GrDouble, N: 4}, api.ErrNetNone)
	if l := q.g.Net(); !slices.Equal(l, append(slices.Clone(polls), polls[1])) {
		t.Errorf("P11.2: doubled: %v", l)
	}
	q.must(api.GroupAct{Kind: api.GrDrop, N: 0}, api.OK)
	if l := q.g.Net(); !slices.Equal(l, []api.Packet{polls[1], polls[2], polls[1]}) {
		t.Errorf("P11.2: dropped: %v", l)
	}
	q.must(api.GroupAct{Kind: api.GrCrash, Node: 4}, api.OK)
	q.must(api.GroupAct{Kind: api.GrDeliver, N: 1}, api.OK)
	if l := q.g.Net(); !slices.Equal(l, []api.Packet{polls[1], polls[1]}) {
		t.Errorf("P11.3: to a node that is down: %v", l)
	}
	q.must(api.GroupAct{Kind: api.GrDeliver, N: 1}, api.OK)
	if l := q.g.Net(); len(l) != 2 || l[1].From != 3 || l[1].To != 1 || q.g.Node(3).Ballot.Hard.Vote != 1 {
		t.Errorf("P11.2: delivered: %v", l)
	}
}

// TestNoRoom: of what is sent at once as much goes as there is room for, the first ones.
func TestNoRoom(t *testing.T) {
	q := newPair(t, api.GroupConfig{Nodes: 5, Disk: 10000, Room: 2})
	q.ticks(11)
	if l := q.g.Net(); len(l) != 2 || l[0].To != 2 || l[1].To != 3 {
		t.Errorf("P11.2: %v", l)
	}
	q.ticks(1)
	if l := q.g.Net(); len(l) != 2 || l[0].From != 1 || l[1].From != 1 || q.role(2) != api.RoleCandidate {
		t.Errorf("P11.2: %v", l)
	}
}

func TestSave(t *testing.T) {
	q := lead(t, api.GroupConfig{Nodes: 3, Disk: 1 << 20, Room: 100})
	q.must(api.GroupAct{Kind: api.GrPropose, Node: 1, Text: "a"}, api.OK)
	long := strings.Repeat("x", 50001)
	q.must(api.GroupAct{Kind: api.GrSave, Node: 1, N: 2, Text: "s"}, api.ErrSnapIndex)
	q.must(api.GroupAct{Kind: api.GrSave, Node: 1, N: 0, Text: "s"}, api.ErrSnapIndex)
	q.must(api.GroupAct{Kind: api.GrSave, Node: 1, N: math.MinInt, Text: long}, api.ErrLong)
	q.rounds(4)
	for _, n := range anyNumbers {
		if n != 1 && n != 2 {
			q.must(api.GroupAct{Kind: api.GrSave, Node: 2, N: n, Text: "s"}, api.ErrSnapIndex)
		}
	}
	q.must(api.GroupAct{Kind: api.GrSave, Node: 2, N: 1, Text: long[1:]}, api.OK)
	if l := q.g.Known(2); len(l) != 1 || l[0].Text != "a" || q.g.Node(2).Text != long[1:] {
		t.Errorf("P11.2, P11.3: %v", l)
	}
	q.must(api.GroupAct{Kind: api.GrCrash, Node: 2}, api.OK)
	q.must(api.GroupAct{Kind: api.GrSave, Node: 2, N: 1, Text: long}, api.ErrDiskDown)
	q.must(api.GroupAct{Kind: api.GrRestart, Node: 2}, api.OK)
	n := q.g.Node(2)
	if n.Text != long[1:] || n.Log.Base != (api.Spot{Index: 1, Term: 1}) || len(n.Log.L) != 1 || len(q.g.Known(2)) != 0 {
		t.Errorf("P11.8: %v", n.Log)
	}
}

// TestDown: a node whose disk is down goes on till it has something to keep; then it falls.
func TestDown(t *testing.T) {
	q := lead(t, three)
	q.must(api.GroupAct{Kind: api.GrFuse, Node: 1, N: 0}, api.OK)
	q.rounds(4)
	if q.role(1) != api.RoleLeader {
		t.Error("P11.2: a beat keeps nothing")
	}
	if at := q.must(api.GroupAct{Kind: api.GrPropose, Node: 1, Text: "a"}, api.ErrDiskDown); at != 0 || q.g.Up(1) || len(q.g.Net()) != 0 {
		t.Errorf("P11.2: %d, %t, %v", at, q.g.Up(1), q.g.Net())
	}
	q.must(api.GroupAct{Kind: api.GrRestart, Node: 1}, api.ErrDiskDown)
	q.must(api.GroupAct{Kind: api.GrFuse, Node: 1, N: -2}, api.ErrArg)
	q.must(api.GroupAct{Kind: api.GrRestart, Node: 1}, api.ErrDiskDown)
	q.must(api.GroupAct{Kind: api.GrFuse, Node: 1, N: -1}, api.OK)
	q.must(api.GroupAct{Kind: api.GrRestart, Node: 1}, api.OK)
	q.must(api.GroupAct{Kind: api.GrRestart, Node: 1}, api.ErrArg)
	if n := q.g.Node(1); n.Ballot.Role != api.RoleFollower || len(n.Log.L) != 1 {
		t.Errorf("P11.2: %v", n)
	}
}

// TestFallAtTick: two are due at the same tick; the first one falls, the second one stands all the same.
func TestFallAtTick(t *testing.T) {
	q := newPair(t, three)
	for i := 1; i <= 3; i++ {
		q.must(api.GroupAct{Kind: api.GrCrash, Node: i}, api.OK)
		q.must(api.GroupAct{Kind: api.GrDraw, Node: i, N: 5}, api.OK)
	}
	for i := 1; i <= 2; i++ {
		q.must(api.GroupAct{Kind: api.GrRestart, Node: i}, api.OK)
	}
	q.must(api.GroupAct{Kind: api.GrFuse, Node: 1, N: 0}, api.OK)
	q.ticks(5)
	if q.g.Up(1) || q.role(2) != api.RoleCandidate || len(q.g.Net()) != 2 {
		t.Errorf("P11.2: %t, %v", q.g.Up(1), q.g.Node(2))
	}
	q.must(api.GroupAct{Kind: api.GrCrash, Node: 1}, api.OK)
	q.must(api.GroupAct{Kind: api.GrRestart, Node: 1}, api.OK)
	q.ticks(4)
	if q.role(1) != api.RoleFollower {
		t.Errorf("P11.2: behind a restart a timer is set anew: %v", q.g.Node(1))
	}
	q.ticks(1)
	if q.role(1) != api.RoleCandidate {
		t.Errorf("P11.2: behind a restart a timer is set: %v", q.g.Node(1))
	}
}

// TestRestartFuses opens with each fuse: what is found must be made safe, so even a disk without a byte is changed once.
func TestRestartFuses(t *testing.T) {
	q := newPair(t, three)
	for fuse, want := range []api.Errno{api.ErrDiskDown, api.ErrDiskDown, api.OK} {
		q.must(api.GroupAct{Kind: api.GrCrash, Node: 1}, api.OK)
		q.must(api.GroupAct{Kind: api.GrFuse, Node: 1, N: fuse}, api.OK)
		q.must(api.GroupAct{Kind: api.GrRestart, Node: 1}, want)
		if q.g.Up(1) != (want == api.OK) {
			t.Errorf("P11.2: with a fuse of %d it is up: %t", fuse, q.g.Up(1))
		}
	}
	q = lead(t, three)
	for fuse := range 12 {
		q.must(api.GroupAct{Kind: api.GrFuse, Node: 1, N: fuse % 3}, api.OK)
		q.do(api.GroupAct{Kind: api.GrPropose, Node: 1, Text: "a"})
		q.must(api.GroupAct{Kind: api.GrCrash, Node: 1, Keep: []int{fuse * 5, 9}}, api.OK)
		q.must(api.GroupAct{Kind: api.GrFuse, Node: 1, N: fuse % 7}, api.OK)
		q.do(api.GroupAct{Kind: api.GrRestart, Node: 1})
		q.must(api.GroupAct{Kind: api.GrCrash, Node: 1}, api.OK)
		q.must(api.GroupAct{Kind: api.GrRestart, Node: 1}, api.OK)
		q.rounds(40)
	}
}

// TestKeep: of a write that was cut off as much survives as is said.
func TestKeep(t *testing.T) {
	for _, keep := range [][]int{nil, {0}, {1}, {9}, {100000}, {-1}, {math.MaxInt, 5}} {
		q := lead(t, api.GroupConfig{Nodes: 1, Disk: 10000, Room: 1})
		q.must(api.GroupAct{Kind: api.GrFuse, Node: 1, N: 1}, api.OK)
		q.must(api.GroupAct{Kind: api.GrPropose, Node: 1, Text: "abc"}, api.ErrDiskDown)
		was := slices.Clone(keep)
		q.must(api.GroupAct{Kind: api.GrCrash, Node: 1, Keep: keep}, api.OK)
		if !slices.Equal(keep, was) {
			t.Errorf("R5: %v became %v", was, keep)
		}
		q.must(api.GroupAct{Kind: api.GrRestart, Node: 1}, api.OK)
		want := 1
		if len(keep) > 0 && keep[0] >= 100 {
			want = 2
		}
		if n := q.g.Node(1); len(n.Log.L) != want {
			t.Errorf("P11.2: with %v there are %d entries", keep, len(n.Log.L))
		}
	}
}

// TestFullDisk: a node whose disk has no room falls, and comes up with what it had.
func TestFullDisk(t *testing.T) {
	q := lead(t, api.GroupConfig{Nodes: 1, Disk: 256, Room: 1})
	had := 1
	for {
		at, e := q.do(api.GroupAct{Kind: api.GrPropose, Node: 1, Text: "0123456789"})
		if e == api.ErrDiskFull {
			break
		}
		if e != api.OK || at != had+1 || at > 100 {
			t.Fatalf("P11.2: %d, %d", at, e)
		}
		had = at
	}
	if q.g.Up(1) {
		t.Error("P11.2: it is up")
	}
	q.must(api.GroupAct{Kind: api.GrRestart, Node: 1}, api.OK)
	if n := q.g.Node(1); len(n.Log.L) != had || n.Ballot.Hard.Term != 1 {
		t.Errorf("P11.8: %v", n)
	}
}

// TestFullLog: who is to lead with a full log does not; the event is refused, and its packet gone.
func TestFullLog(t *testing.T) {
	q := lead(t, api.GroupConfig{Nodes: 3, Disk: 1 << 20, Room: 10})
	for range 399 {
		q.must(api.GroupAct{Kind: api.GrPropose, Node: 1}, api.OK)
		q.deliverAll()
	}
	q.must(api.GroupAct{Kind: api.GrPropose, Node: 1}, api.ErrRaftFull)
	q.must(api.GroupAct{Kind: api.GrCrash, Node: 1}, api.OK)
	for len(q.g.Net()) == 0 {
		q.ticks(1)
	}
	q.must(api.GroupAct{Kind: api.GrDrop, N: 0}, api.OK) // what is for 1
	q.must(api.GroupAct{Kind: api.GrDeliver}, api.OK)
	was := q.g.Node(2)
	q.must(api.GroupAct{Kind: api.GrDeliver}, api.ErrRaftFull)
	if !sameNode(q.g.Node(2), was) || was.Ballot.Role != api.RoleCandidate || len(q.g.Net()) != 0 {
		t.Errorf("P11.2, R3: %v", q.g.Node(2))
	}
}

// TestMemory writes over all that is answered, and its spare room.
func TestMemory(t *testing.T) {
	q := lead(t, three)
	text := []byte("abc")
	q.must(api.GroupAct{Kind: api.GrPropose, Node: 1, Text: string(text)}, api.OK)
	for range 2 {
		for i := 1; i <= 3; i++ {
			n := q.g.Node(i)
			scribble(n.Ballot.Got, 9)
			scribble(n.Next, 9)
			scribble(n.Match, 9)
			scribble(n.Log.L, api.Entry{Text: "no"})
			scribble(q.g.Known(i), api.Entry{Text: "no"})
		}
		scribble(q.g.Net(), api.Packet{Text: "no"})
		hold(t, q.g, q.p, api.GroupAct{})
		q.deliverAll()
	}
	q.ticks(30) // candidates have votes
	for i := 1; i <= 3; i++ {
		scribble(q.g.Node(i).Ballot.Got, 9)
	}
	hold(t, q.g, q.p, api.GroupAct{})
}

func scribble[T any](l []T, x T) {
	l = l[:cap(l)]
	for i := range l {
		l[i] = x
	}
}
