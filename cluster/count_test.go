package cluster

import (
	"testing"

	"rialto/api"
)

// What no call tells: how many rounds there were, and that groups are made once.

func TestRounds(t *testing.T) {
	c, _ := New(api.ClusterConfig{Groups: 2, Nodes: 1, Clients: 1})
	for _, a := range []api.ClusterAct{{Kind: api.ClTick}, {Kind: api.ClRound}, {Kind: api.ClDeliver}, {Kind: 9}, {Kind: api.ClRound}, {}} {
		c.Do(a)
	}
	if n := c.rounds.Load(); n != 2 {
		t.Errorf("Ways: %d rounds", n)
	}
}

func TestMadeOnce(t *testing.T) {
	c, _ := New(api.ClusterConfig{Groups: 2, Nodes: 3, Clients: 1})
	if c.house(1).group != c.house(1).group || c.house(0).group == c.house(1).group {
		t.Error("Ways: each group is one of its own, made once")
	}
}

func TestSizes(t *testing.T) {
	if diskRoom != 1048576 || netRoom != 500 {
		t.Errorf("P24.1: a disk of %d, a room of %d", diskRoom, netRoom)
	}
}
