package exchange_test

import (
	"slices"
	"testing"

	"rialto/api"
	"rialto/exchange"
	"rialto/shard"
)

var put = api.Request{Kind: api.ReqDeposit, Account: 1, N: 5}

func txn(client, seq int) api.Txn { return api.Txn{Client: client, Seq: seq} }

func TestNew(t *testing.T) {
	for groups := -2; groups <= 7; groups++ {
		for clients := -2; clients <= 9; clients++ {
			w, e := exchange.New(groups, clients)
			if groups < 1 || groups > 4 || clients < 1 || clients > 6 {
				if w != nil || e != api.ErrExchangeConfig {
					t.Errorf("P23.1: New(%d, %d): %v, %d", groups, clients, w, e)
				}
				continue
			}
			if e != api.OK || len(w.Net())+len(w.Events())+len(w.Marks()) != 0 || len(w.Shards()) != groups {
				t.Fatalf("P23.1: New(%d, %d): %d", groups, clients, e)
			}
			for g, s := range w.Shards() {
				if want, _ := shard.New(g, groups); !same(s, want) {
					t.Errorf("P23.1: group %d of %d: %s", g, groups, brief(s))
				}
			}
			for client := 1; client <= clients; client++ {
				if e := w.Do(api.Act{Kind: api.ActInvoke, Client: client, Req: put}); e != api.OK {
					t.Errorf("P23.1: client %d of %d: %d", client, clients, e)
				}
			}
			for i, e := range w.Events() {
				if e.Txn != txn(i+1, 1) || w.Net()[i].To != (i+1)%groups {
					t.Errorf("P23.2: %s, %s", brief(e), brief(w.Net()[i]))
				}
			}
		}
	}
}

// TestRefused: what is wrong is told, the first thing first, and nothing changes.
func TestRefused(t *testing.T) {
	q := newPair(t, 2, 3)
	unfit := api.Request{Kind: api.ReqDeposit, Account: 1}
	for _, a := range []api.Act{{}, {Kind: -1}, {Kind: 8}, {Kind: 8, Client: 1, Req: put}, {Kind: 1}, {Kind: 1, Client: 4, Req: put}, {Kind: 1, Client: -1, Req: unfit}, {Kind: 2}, {Kind: 2, Client: 4}, {Kind: 3, Group: 2}, {Kind: 3, Group: -1}} {
		q.must(a, api.ErrExchangeAct)
	}
	for _, a := range []api.Act{{Kind: 1, Client: 1}, {Kind: 1, Client: 3, Req: unfit}, {Kind: 2, Client: 1}, {Kind: 2, Client: 3}, {Kind: 4}, {Kind: 5}, {Kind: 6}, {Kind: 4, N: -1}} {
		q.must(a, api.ErrArg)
	}
	q.must(api.Act{Kind: api.ActInvoke, Client: 3, Req: put, Group: 9, N: 9}, api.OK)
	q.must(api.Act{Kind: api.ActInvoke, Client: 3, Req: put}, api.ErrBusy)
	q.must(api.Act{Kind: api.ActInvoke, Client: 3, Req: unfit}, api.ErrArg)
	for kind := api.ActDeliver; kind <= api.ActDouble; kind++ {
		for _, n := range []int{-1, 1, 1 << 40, -1 << 40} {
			q.must(api.Act{Kind: kind, N: n}, api.ErrArg)
		}
	}
	q.must(api.Act{Kind: api.ActRetry, Client: 3, Req: unfit}, api.OK)
	q.must(api.Act{Kind: api.ActTick, Group: 1, Client: 9, N: 9}, api.OK)
	q.must(api.Act{Kind: api.ActRound, Client: 9, Group: 9, N: 9}, api.OK)
}

// TestFull: a thousand messages are under way, and no more.
func TestFull(t *testing.T) {
	q := newPair(t, 1, 2)
	q.must(api.Act{Kind: api.ActInvoke, Client: 1, Req: put}, api.OK)
	q.must(api.Act{Kind: api.ActDeliver}, api.OK)
	q.must(api.Act{Kind: api.ActTick}, api.OK)
	for range 999 {
		q.must(api.Act{Kind: api.ActDouble}, api.OK)
	}
	q.must(api.Act{Kind: api.ActDouble}, api.ErrLong)
	q.must(api.Act{Kind: api.ActDouble, N: 1000}, api.ErrArg)
	q.must(api.Act{Kind: api.ActInvoke, Client: 2, Req: put}, api.OK) // it waits, though its message is lost
	q.must(api.Act{Kind: api.ActRetry, Client: 1}, api.OK)
	q.must(api.Act{Kind: api.ActTick}, api.OK)
	if n := len(q.w.Net()); n != 1000 {
		t.Fatalf("P23.2: %d are under way", n)
	}
	q.must(api.Act{Kind: api.ActInvoke, Client: 2, Req: put}, api.ErrBusy)
	q.must(api.Act{Kind: api.ActDrop, N: 999}, api.OK)
	q.must(api.Act{Kind: api.ActTick}, api.OK) // a MsgPrepare alone
	q.must(api.Act{Kind: api.ActDeliver}, api.OK)
	q.must(api.Act{Kind: api.ActTick}, api.OK) // two, and one is lost
	if n := len(q.w.Net()); n != 1000 {
		t.Fatalf("P23.2: %d are under way", n)
	}
	q.must(api.Act{Kind: api.ActRound}, api.OK)
	for range 36 {
		q.must(api.Act{Kind: api.ActRound}, api.OK)
	}
	if l := q.w.Events(); len(l) != 4 {
		t.Errorf("P23.6: %s", brief(l))
	}
}

// TestLast: a client makes 100000 requests; that a key is moved to where it is costs little.
func TestLast(t *testing.T) {
	w, _ := exchange.New(1, 1)
	stay := api.Request{Kind: api.ReqMove, Key: api.Key{Kind: api.KeyAccount, N: 1}}
	for range api.MaxSeq {
		if e := w.Do(api.Act{Kind: api.ActInvoke, Client: 1, Req: stay}); e != api.OK {
			t.Fatalf("P23.2: %d", e)
		}
		w.Do(api.Act{Kind: api.ActDeliver})
		w.Do(api.Act{Kind: api.ActDeliver})
	}
	if e := w.Do(api.Act{Kind: api.ActInvoke, Client: 1, Req: stay}); e != api.ErrLong {
		t.Errorf("P23.2: %d", e)
	}
	if e := w.Do(api.Act{Kind: api.ActInvoke, Client: 1}); e != api.ErrArg {
		t.Errorf("P23.2: %d", e)
	}
	l := w.Events()
	if last := l[len(l)-1]; len(l) != 2*api.MaxSeq || last.Txn != txn(1, api.MaxSeq) || last.Answer.Code != api.ErrRejected || len(w.Net()) != 0 {
		t.Errorf("P23.2: %d events, %s", len(l), brief(last))
	}
}

// TestAnswers: a client hears what it waits for, once; what it hears too late is nothing.
func TestAnswers(t *testing.T) {
	q := newPair(t, 1, 1)
	q.must(api.Act{Kind: api.ActInvoke, Client: 1, Req: put}, api.OK)
	for range 5 {
		q.must(api.Act{Kind: api.ActTick}, api.OK)
		for len(q.p.way) > 0 && q.p.way[0].Kind != api.MsgAnswer {
			q.must(api.Act{Kind: api.ActDeliver}, api.OK)
		}
	}
	for range 3 {
		q.must(api.Act{Kind: api.ActDouble}, api.OK)
	}
	q.must(api.Act{Kind: api.ActDrop}, api.OK)
	q.must(api.Act{Kind: api.ActDeliver}, api.OK)
	if l := q.w.Events(); len(l) != 2 || l[1].Txn != txn(1, 1) || l[1].Req != put || !l[1].Answered || l[1].Answer.Code != api.OK || l[0].At != 0 || l[1].At != 1 {
		t.Fatalf("P23.3: %s", brief(l))
	}
	q.must(api.Act{Kind: api.ActDeliver}, api.OK)
	q.must(api.Act{Kind: api.ActInvoke, Client: 1, Req: put}, api.OK)
	q.must(api.Act{Kind: api.ActDeliver}, api.OK) // the answer of the first one, again
	if l := q.w.Events(); len(l) != 3 || l[2].Answered || l[2].At != 1 {
		t.Fatalf("P23.2: %s", brief(l))
	}
	q.must(api.Act{Kind: api.ActRetry, Client: 1}, api.OK)
}

// TestExample is the chapter's own.
func TestExample(t *testing.T) {
	q := newPair(t, 2, 1)
	if a := q.answered(1, put); a.Code != api.OK {
		t.Errorf("P23.4: %s", brief(a))
	}
	if l := q.w.Marks(); !slices.Equal(l, []api.Mark{{Txn: txn(1, 1), Commit: true}}) {
		t.Errorf("P23.4: %v", l)
	}
}

// TestMemory: what is told is nobody else's.
func TestMemory(t *testing.T) {
	q := newPair(t, 2, 2)
	for _, r := range []api.Request{put, {Kind: api.ReqRead, Account: 1}} {
		q.answered(1, r)
	}
	q.must(api.Act{Kind: api.ActInvoke, Client: 2, Req: api.Request{Kind: api.ReqMove, Key: api.Key{Kind: api.KeyAccount, N: 1}}}, api.OK)
	q.must(api.Act{Kind: api.ActDeliver}, api.OK)
	for range 2 {
		for g := range 2 {
			q.must(api.Act{Kind: api.ActTick, Group: g}, api.OK)
		}
		for range len(q.p.way) {
			q.must(api.Act{Kind: api.ActDeliver}, api.OK)
		}
	}
	q.must(api.Act{Kind: api.ActTick}, api.OK)
	cells := 0
	for _, m := range q.w.Net() {
		for i := range m.Cells {
			cells++
			m.Cells[i].Account.Free[0].N = 99
			m.Cells[i].Version = 99
		}
	}
	if cells == 0 {
		t.Fatal("no cell is under way")
	}
	for _, s := range q.w.Shards() {
		for _, c := range s.Part.Cells {
			clear(c.Account.Free)
		}
		clear(s.Part.Cells)
		clear(s.Part.Done)
		clear(s.Sessions)
		clear(s.Map)
		for _, x := range s.Coord.Trans {
			clear(x.Peers)
		}
	}
	for _, e := range q.w.Events() {
		clear(e.Answer.Amounts)
	}
	clear(q.w.Marks())
	clear(q.w.Events())
	clear(q.w.Net())
	q.hold("what is told was changed")
	for range 5 {
		q.must(api.Act{Kind: api.ActRound}, api.OK)
	}
}
