package model_test

import (
	"math/rand"
	"slices"
	"testing"

	"rialto/api"
	"rialto/coord"
	"rialto/model"
	"rialto/part"
	"rialto/session"
)

// someRequest fits; accounts and lanes are few, so that requests meet.
func someRequest(r *rand.Rand) api.Request {
	a, l := 1+r.Intn(3), 1+r.Intn(2)
	switch kind := r.Intn(10); kind {
	case api.ReqDeposit, api.ReqWithdraw:
		return api.Request{Kind: kind, Account: a, Asset: r.Intn(4), N: 1 + r.Intn(60)}
	case api.ReqOrder:
		return api.Request{Kind: kind, Account: a, Lane: l, Side: 1 + r.Intn(2), Price: 1 + r.Intn(9), N: 1 + r.Intn(5), Now: r.Intn(5) == 0}
	case api.ReqCancel:
		return api.Request{Kind: kind, Account: a, Lane: l, N: 1 + r.Intn(12)}
	case api.ReqCall, api.ReqUncross:
		return api.Request{Kind: kind, Lane: l}
	case api.ReqNet, api.ReqRead:
		return api.Request{Kind: kind, Account: a}
	case api.ReqMove:
		return api.Request{Kind: kind, Key: api.Key{Kind: 1 + r.Intn(2), N: l}, To: r.Intn(4)}
	}
	return order(a, l, 1+r.Intn(2), 1+r.Intn(9), 1+r.Intn(5))
}

// TestRuns does requests at random, from a model in which much is at its edge.
func TestRuns(t *testing.T) {
	times := map[int]map[api.Errno]int{}
	for kind := range 10 {
		times[kind] = map[api.Errno]int{}
	}
	for seed := range int64(100) {
		r := rand.New(rand.NewSource(seed))
		d := &desk{t, model.New()}
		for i := range 3 {
			for asset := range 4 {
				if n := []int{0, 40, 100, 100, 100, half - 40, half, most - 40}[r.Intn(8)]; n > 0 {
					d.m.Accounts[i].Free = append(d.m.Accounts[i].Free, amount(asset, n))
				}
			}
			d.m.Accounts[i].Count = []int{0, 0, 0, 999999890, counts - 3}[r.Intn(5)]
			if r.Intn(4) == 0 {
				d.m.Lanes[i].Owed = []api.Owed{owed(1, 0, eighth-8), owed(1, 1, 5), owed(2, 1, eighth-8), owed(3, 0, most-30)}
			}
		}
		for range 150 {
			q := someRequest(r)
			times[q.Kind][d.do(q).Code]++
		}
	}
	for kind := 1; kind <= 9; kind++ {
		if n := times[kind]; n[api.OK] < 100 || n[api.ErrRejected] < 20 && kind < api.ReqRead {
			t.Errorf("too few of kind %d tell something: %v", kind, n)
		}
	}
}

// office is one group that has all keys, and does requests as chapters 18 and 19 say.
type office struct {
	*testing.T
	p   api.Part
	c   api.Coord
	seq int
}

func newOffice(t *testing.T) *office {
	var keys []api.Key
	for n := range 8 {
		keys = append(keys, api.Key{Kind: api.KeyAccount, N: n + 1})
	}
	for n := range 3 {
		keys = append(keys, api.Key{Kind: api.KeyLane, N: n + 1})
	}
	p, _ := part.New(0, keys)
	c, _ := coord.New(0)
	return &office{T: t, p: p, c: c}
}

func (o *office) do(r api.Request) api.Answer {
	o.Helper()
	o.seq++
	var peers []api.Peer
	for _, key := range session.Keys(r) {
		peers = append(peers, api.Peer{Key: key})
	}
	c, e := coord.Begin(o.c, api.Txn{Client: 1, Seq: o.seq}, r, peers)
	for e == api.OK {
		o.c = c
		for _, m := range slices.Concat(coord.Out(c), part.Out(o.p)) {
			o.hand(m)
		}
		next, t, over := coord.Ended(o.c)
		if over {
			o.c = next
			return t.Answer
		}
		c = o.c
	}
	o.Fatalf("%+v: %d", r, e)
	return api.Answer{}
}

func (o *office) hand(m api.Message) {
	var told []api.Message
	switch m.Kind {
	case api.MsgPrepare:
		o.p, told, _, _ = part.Prepare(o.p, m)
	case api.MsgFinish:
		o.p, told, _, _ = part.Finish(o.p, m)
	default:
		if c, _, e := coord.Hear(o.c, m); e == api.OK {
			o.c = c
		}
	}
	for _, x := range told {
		o.hand(x)
	}
}

// TestOffice: the model answers, and becomes, what the layers below it make of the same requests when they are done one by one.
func TestOffice(t *testing.T) {
	for seed := range int64(20) {
		r := rand.New(rand.NewSource(seed))
		m, o := model.New(), newOffice(t)
		for range 200 {
			q := someRequest(r)
			if q.Kind == api.ReqMove || !session.Fits(q) {
				continue
			}
			next, a := model.Do(m, q)
			if b := o.do(q); !same(a, b) {
				t.Fatalf("P22.2: %+v: %v, where the layers below answer %v", q, a, b)
			}
			m = next
			for i, c := range o.p.Cells {
				if i < 8 && !same(c.Account, m.Accounts[i]) || i >= 8 && !same(c.Lane, m.Lanes[i-8]) {
					t.Fatalf("P22.2: %+v: %s, where the layers below have %s", q, brief(m), brief(c))
				}
			}
		}
	}
}
