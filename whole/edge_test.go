package whole

import (
	"math/rand"
	"testing"

	"rialto/api"
)

// TestLogsFull: with full logs nothing goes on, yet every call ends, and what was answered stays right.
func TestLogsFull(t *testing.T) {
	for _, seed := range []int64{4, 9} {
		r := rand.New(rand.NewSource(seed))
		c := newCity(t, api.ClusterConfig{Groups: 1 + int(seed)%2, Nodes: 2 + r.Intn(4), Clients: 6})
		for n := 0; c.longest() < api.MaxLog && n < 60; n++ {
			c.disorder(r, 300, r.Intn(3) > 0)
			c.heal(r)
			for range 20 {
				c.round()
			}
			entire(t, c, judge(t, c))
		}
		if n := c.longest(); n != api.MaxLog {
			t.Fatalf("the longest log has %d entries", n)
		}
		for range 60 {
			c.round()
		}
		entire(t, c, judge(t, c))
	}
}

// TestLastRound: logs of nearly 250 entries, draws up to 42, all nodes just up, six who wait for the same keys, and 200 letters: P24.7.
func TestLastRound(t *testing.T) {
	for nodes := 1; nodes <= 5; nodes++ {
		for groups := 1; groups <= 2; groups++ {
			c := newCity(t, api.ClusterConfig{Groups: groups, Nodes: nodes, Clients: 6})
			for c.longest() < 240 {
				answer(t, c, 1, deposit(1, 1, 5))
			}
			for client := 1; client <= 6; client++ {
				c.invoke(client, net(1))
			}
			for n := 0; len(c.Letters()) < 200; n++ {
				c.Do(api.ClusterAct{Kind: api.ClDouble, N: n})
			}
			for g := range groups {
				for node := 1; node <= nodes; node++ {
					c.group(g, api.GroupAct{Kind: api.GrCrash, Node: node})
					c.group(g, api.GroupAct{Kind: api.GrDraw, Node: node, N: 43 - node})
					c.group(g, api.GroupAct{Kind: api.GrRestart, Node: node})
				}
			}
			c.inTheEnd()
			entire(t, c, judge(t, c))
		}
	}
}

// TestTooMany: at most four wait for a key; whoever comes then is told that it is busy.
func TestTooMany(t *testing.T) {
	w := newWorld(t, 1, 6)
	for client := 1; client <= 6; client++ {
		w.invoke(client, deposit(1, 0, 1))
		w.Do(api.Act{Kind: api.ActDeliver})
	}
	w.inTheEnd()
	codes := map[api.Errno]int{}
	for _, f := range fates(t, w) {
		codes[f.answer.Code]++
	}
	if codes[api.OK] != 5 || codes[api.ErrBusy] != 1 {
		t.Errorf("P1: %v", codes)
	}
	wantAnswer(t, w, 6, deposit(1, 0, 1), api.Answer{})
	wantAnswer(t, w, 1, read(1), api.Answer{Amounts: []api.Amount{{N: 6}}})
	entire(t, w, judge(t, w))
}
