package exchange_test

import (
	"math/rand"
	"testing"

	"rialto/api"
)

// someRequest mostly fits; accounts and lanes are few, so that requests meet.
func someRequest(r *rand.Rand) api.Request {
	a, l := 1+r.Intn(3), 1+r.Intn(2)
	switch kind := 1 + r.Intn(9); kind {
	case api.ReqDeposit, api.ReqWithdraw:
		return api.Request{Kind: kind, Account: a, Asset: r.Intn(4), N: r.Intn(60)}
	case api.ReqOrder:
		return api.Request{Kind: kind, Account: a, Lane: l, Side: 1 + r.Intn(2), Price: 1 + r.Intn(5), N: 1 + r.Intn(5), Now: r.Intn(6) == 0}
	case api.ReqCancel:
		return api.Request{Kind: kind, Account: a, Lane: l, N: 1 + r.Intn(9)}
	case api.ReqCall, api.ReqUncross:
		return api.Request{Kind: kind, Lane: l}
	case api.ReqNet, api.ReqRead:
		return api.Request{Kind: kind, Account: a}
	}
	return api.Request{Kind: api.ReqMove, Key: api.Key{Kind: 1 + r.Intn(2), N: l}, To: r.Intn(5)}
}

// someAct is one of a kind that may do something here, mostly.
func someAct(r *rand.Rand, q *pair) api.Act {
	under := len(q.p.way)
	client := 1 + r.Intn(q.p.clients)
	switch n := r.Intn(60); {
	case n < 10:
		return api.Act{Kind: api.ActInvoke, Client: client, Req: someRequest(r)}
	case n < 13:
		return api.Act{Kind: api.ActRetry, Client: client}
	case n < 20 && under < 100:
		return api.Act{Kind: api.ActTick, Group: r.Intn(len(q.p.shards))}
	case n < 22:
		return api.Act{Kind: api.ActDrop, N: r.Intn(1 + under)}
	case n < 24:
		return api.Act{Kind: api.ActDouble, N: r.Intn(1 + under)}
	case n < 25:
		return api.Act{Kind: api.ActRound}
	case n < 27:
		return api.Act{Kind: r.Intn(10) - 1, Client: r.Intn(9) - 1, Group: r.Intn(7) - 1, N: r.Intn(60) - 20, Req: someRequest(r)}
	}
	return api.Act{Kind: api.ActDeliver, N: r.Intn(1 + under)}
}

// TestRandom does the same acts in a world and in a plain one.
func TestRandom(t *testing.T) {
	seen := map[api.Errno]int{}
	marks := 0
	for seed := range int64(60) {
		r := rand.New(rand.NewSource(seed))
		q := newPair(t, 1+int(seed)%4, 1+r.Intn(6))
		for range 250 {
			seen[q.do(someAct(r, q))]++
		}
		marks += len(q.p.marks)
	}
	for _, e := range []api.Errno{api.OK, api.ErrArg, api.ErrBusy, api.ErrExchangeAct} {
		if seen[e] < 50 {
			t.Errorf("%d was answered %d times alone", e, seen[e])
		}
	}
	if marks < 300 {
		t.Errorf("only %d marks", marks)
	}
}
