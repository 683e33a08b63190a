package group

import (
	"testing"

	"rialto/api"
)

// What no call tells: timers, and how many events there were.

func mustDo(t *testing.T, g *Group, a api.GroupAct, want api.Errno) {
	t.Helper()
	if _, e := g.Do(a); e != want {
		t.Fatalf("P11.2: %v: %d, want %d", a, e, want)
	}
}

func wantLeft(t *testing.T, g *Group, node int, want int) {
	t.Helper()
	if left, ok := g.wheel.Left(node); left != want || ok != (want > 0) {
		t.Fatalf("P11.2: the timer of %d is %d ahead, want %d", node, left, want)
	}
}

// TestRefusedTimeout: with a full log a node can't lead; it asks again and again all the same.
func TestRefusedTimeout(t *testing.T) {
	g, _ := New(api.GroupConfig{Nodes: 1, Disk: 1 << 20, Room: 1})
	for range 11 {
		mustDo(t, g, api.GroupAct{Kind: api.GrTick}, api.OK)
	}
	for range api.MaxLog - 1 {
		mustDo(t, g, api.GroupAct{Kind: api.GrPropose, Node: 1}, api.OK)
	}
	mustDo(t, g, api.GroupAct{Kind: api.GrCrash, Node: 1}, api.OK)
	mustDo(t, g, api.GroupAct{Kind: api.GrDraw, Node: 1, N: 4}, api.OK)
	mustDo(t, g, api.GroupAct{Kind: api.GrRestart, Node: 1}, api.OK)
	had := g.events.Load()
	for tick := range 40 {
		wantLeft(t, g, 1, 4-tick%4)
		mustDo(t, g, api.GroupAct{Kind: api.GrTick}, api.OK)
	}
	if n := g.events.Load() - had; n != 10 || g.Node(1).Ballot.Role != api.RoleFollower || g.Node(1).Ballot.Hard.Term != 1 {
		t.Errorf("P11.2: %d events, %v", n, g.Node(1).Ballot)
	}
}

// TestStoppedTimers: who falls has no timer, whatever let it fall.
func TestStoppedTimers(t *testing.T) {
	g, _ := New(api.GroupConfig{Nodes: 3, Disk: 1000, Room: 10})
	for node := 1; node <= 3; node++ {
		wantLeft(t, g, node, 10+node)
	}
	mustDo(t, g, api.GroupAct{Kind: api.GrCrash, Node: 2}, api.OK)
	wantLeft(t, g, 2, 0)
	mustDo(t, g, api.GroupAct{Kind: api.GrDraw, Node: 2, N: 7}, api.OK)
	wantLeft(t, g, 2, 0)
	mustDo(t, g, api.GroupAct{Kind: api.GrRestart, Node: 2}, api.OK)
	wantLeft(t, g, 2, 7)
	mustDo(t, g, api.GroupAct{Kind: api.GrFuse, Node: 2}, api.OK)
	for range 7 {
		mustDo(t, g, api.GroupAct{Kind: api.GrTick}, api.OK)
	}
	if g.Up(2) {
		t.Error("P11.2: its disk is down, and it stood")
	}
	wantLeft(t, g, 2, 0)
	wantLeft(t, g, 1, 4)
	mustDo(t, g, api.GroupAct{Kind: api.GrRestart, Node: 2}, api.ErrDiskDown)
	wantLeft(t, g, 2, 0)
}

// TestEvents counts what happened: not what was lost, nor what came to a node that was down.
func TestEvents(t *testing.T) {
	g, _ := New(api.GroupConfig{Nodes: 3, Disk: 10000, Room: 10})
	events := func(want int64, acts ...api.GroupAct) {
		t.Helper()
		for _, a := range acts {
			g.Do(a)
		}
		if n := g.events.Load(); n != want {
			t.Errorf("Ways: %d events, want %d", n, want)
		}
	}
	for range 10 {
		events(0, api.GroupAct{Kind: api.GrTick})
	}
	events(1, api.GroupAct{Kind: api.GrTick})
	events(2, api.GroupAct{Kind: api.GrDeliver})
	events(2, api.GroupAct{Kind: api.GrDrop})
	events(3, api.GroupAct{Kind: api.GrDeliver})
	events(4, api.GroupAct{Kind: api.GrPropose, Node: 1})
	events(5, api.GroupAct{Kind: api.GrSave, Node: 1, N: 1})
	events(5, api.GroupAct{Kind: api.GrCrash, Node: 1}, api.GroupAct{Kind: api.GrPropose, Node: 1}, api.GroupAct{Kind: api.GrSave, Node: 1})
	events(5, api.GroupAct{Kind: api.GrRestart, Node: 1}, api.GroupAct{Kind: api.GrFuse, Node: 1}, api.GroupAct{Kind: api.GrDraw, Node: 1})
}

// TestMadeOnce: a node's disk is the same one whoever asks.
func TestMadeOnce(t *testing.T) {
	g, _ := New(api.GroupConfig{Nodes: 2, Disk: 1000, Room: 10})
	if g.member(1).disk != g.member(1).disk || g.member(1).disk == g.member(2).disk {
		t.Error("Ways: each node has a disk of its own, made once")
	}
}
