package cluster_test

import (
	"math/rand"
	"testing"

	"rialto/api"
)

// someRequest mostly fits; accounts and lanes are few, so that requests meet.
func someRequest(r *rand.Rand) api.Request {
	a, l := 1+r.Intn(3), 1+r.Intn(2)
	switch kind := 1 + r.Intn(9); kind {
	case api.ReqDeposit, api.ReqWithdraw:
		return api.Request{Kind: kind, Account: a, Asset: r.Intn(4), N: r.Intn(60)}
	case api.ReqOrder:
		return api.Request{Kind: kind, Account: a, Lane: l, Side: 1 + r.Intn(2), Price: 1 + r.Intn(5), N: 1 + r.Intn(5), Now: r.Intn(6) == 0}
	case api.ReqCancel:
		return api.Request{Kind: kind, Account: a, Lane: l, N: 1 + r.Intn(9)}
	case api.ReqCall, api.ReqUncross:
		return api.Request{Kind: kind, Lane: l}
	case api.ReqNet, api.ReqRead:
		return api.Request{Kind: kind, Account: a}
	}
	return api.Request{Kind: api.ReqMove, Key: api.Key{Kind: 1 + r.Intn(2), N: l}, To: r.Intn(5)}
}

// someGroupAct is one that lets a group go on, mostly.
func someGroupAct(r *rand.Rand, nodes int) api.GroupAct {
	node := 1 + r.Intn(nodes)
	switch n := r.Intn(100); {
	case n < 30:
		return api.GroupAct{Kind: api.GrTick}
	case n < 84:
		return api.GroupAct{Kind: api.GrDeliver, N: r.Intn(3)}
	case n < 86:
		return api.GroupAct{Kind: api.GrDrop, N: r.Intn(9)}
	case n < 88:
		return api.GroupAct{Kind: api.GrDouble, N: r.Intn(9)}
	case n < 89:
		return api.GroupAct{Kind: api.GrDraw, Node: node, N: 2 + r.Intn(30)}
	case n < 91:
		return api.GroupAct{Kind: api.GrFuse, Node: node, N: r.Intn(8) - 2}
	case n < 93:
		return api.GroupAct{Kind: api.GrCrash, Node: node, Keep: []int{r.Intn(60) - 10, r.Intn(60)}}
	case n < 98:
		return api.GroupAct{Kind: api.GrRestart, Node: node}
	}
	return api.GroupAct{Kind: r.Intn(13) - 1, Node: r.Intn(8) - 1, N: r.Intn(30) - 10, Text: "x"}
}

// someNode is mostly one that leads the group of a letter.
func someNode(r *rand.Rand, q *pair, at int) int {
	for node := 1; node <= q.p.c.Nodes && at < len(q.p.way); node++ {
		if to := q.p.way[at].To; to >= 0 && q.p.leads(to, node) && r.Intn(5) > 0 {
			return node
		}
	}
	return 1 + r.Intn(q.p.c.Nodes)
}

// someAct is one of a kind that may do something here, mostly.
func someAct(r *rand.Rand, q *pair) api.ClusterAct {
	under := len(q.p.way)
	client, g := 1+r.Intn(q.p.c.Clients), r.Intn(q.p.c.Groups)
	switch n := r.Intn(60); {
	case n < 4:
		return api.ClusterAct{Kind: api.ClInvoke, Client: client, Req: someRequest(r)}
	case n < 6:
		return api.ClusterAct{Kind: api.ClRetry, Client: client}
	case n < 9 && under < 100:
		return api.ClusterAct{Kind: api.ClTick, Group: g}
	case n < 10:
		return api.ClusterAct{Kind: api.ClDrop, N: r.Intn(1 + under)}
	case n < 11:
		return api.ClusterAct{Kind: api.ClDouble, N: r.Intn(1 + under)}
	case n < 13:
		return api.ClusterAct{Kind: api.ClRound}
	case n < 24:
		at := r.Intn(1 + under)
		return api.ClusterAct{Kind: api.ClDeliver, N: at, Node: someNode(r, q, at)}
	case n < 25:
		return api.ClusterAct{Kind: r.Intn(11) - 1, Client: r.Intn(9) - 1, Group: r.Intn(7) - 1, Node: r.Intn(8) - 1, N: r.Intn(60) - 20, Req: someRequest(r), Act: someGroupAct(r, q.p.c.Nodes)}
	}
	return api.ClusterAct{Kind: api.ClGroup, Group: g, Act: someGroupAct(r, q.p.c.Nodes)}
}

// TestRandom does the same acts in a cluster and in a plain one.
func TestRandom(t *testing.T) {
	seen := map[api.Errno]int{}
	marks := 0
	for seed := range int64(60) {
		r := rand.New(rand.NewSource(seed))
		q := newPair(t, 1+int(seed)%4, 1+r.Intn(5), 1+r.Intn(6))
		for range 700 {
			seen[q.do(someAct(r, q))]++
		}
		marks += len(q.p.marks)
	}
	for _, e := range []api.Errno{api.OK, api.ErrArg, api.ErrBusy, api.ErrDiskDown, api.ErrNetNone, api.ErrGroupAct, api.ErrClusterAct} {
		if seen[e] < 20 {
			t.Errorf("%d was answered %d times alone", e, seen[e])
		}
	}
	if marks < 100 {
		t.Errorf("only %d marks", marks)
	}
}
