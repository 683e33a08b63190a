package lobby_test

import (
	"reflect"
	"slices"
	"testing"

	"rialto/api"
	"rialto/lobby"
)

var put = api.Request{Kind: api.ReqDeposit, Account: 1, N: 5}

func txn(client, seq int) api.Txn { return api.Txn{Client: client, Seq: seq} }

func ask(to int, x api.Txn, r api.Request) api.Message {
	return api.Message{Kind: api.MsgAsk, From: -1, To: to, Txn: x, Req: r}
}

func reply(x api.Txn, a api.Answer) api.Message {
	return api.Message{Kind: api.MsgAnswer, To: -1, Txn: x, Answer: a}
}

func want[T any](t *testing.T, what string, got, want T) {
	t.Helper()
	if !reflect.DeepEqual(got, want) {
		t.Errorf("%s: %+v, want %+v", what, got, want)
	}
}

func TestClients(t *testing.T) {
	l := lobby.New(3, 5)
	for client, has := range map[int]bool{-1: false, 0: false, 1: true, 5: true, 6: false} {
		want(t, "P23.2: a client", l.Has(client), has)
	}
	want(t, "P23.2: who waits not", l.Retry(5), api.ErrArg)
	want(t, "P23.2: asks", l.Invoke(5, put), api.OK)
	want(t, "P23.2: waits", l.Invoke(5, put), api.ErrBusy)
	want(t, "P23.2: unfit, and waits", l.Invoke(5, api.Request{}), api.ErrArg)
	want(t, "P23.2: unfit", l.Invoke(4, api.Request{Kind: api.ReqRead, Account: 9}), api.ErrArg)
	want(t, "P23.2: asks", l.Invoke(2, put), api.OK)
	want(t, "P23.2: asks again", l.Retry(5), api.OK)
	l.RetryAll()
	asks := []api.Message{ask(2, txn(5, 1), put), ask(2, txn(2, 1), put), ask(2, txn(5, 1), put), ask(2, txn(2, 1), put), ask(2, txn(5, 1), put)}
	want(t, "P23.2: under way", l.Way(), asks)

	l.Mark(api.Mark{Txn: txn(5, 1), Commit: true}, api.Mark{Txn: txn(2, 1)})
	ok := api.Answer{Num: 3, Amounts: []api.Amount{{Asset: 1, N: 2}}, Fills: []api.Fill{{Buyer: 1, Seller: 2, Price: 3, N: 4}}}
	for _, strange := range []api.Txn{txn(5, 2), txn(5, 0), txn(3, 0), txn(3, 1), txn(0, 1), txn(6, 1), txn(-1, 0)} {
		l.Hear(reply(strange, ok))
	}
	want(t, "P23.2: who still waits", l.Invoke(5, put), api.ErrBusy)
	l.Hear(reply(txn(5, 1), ok))
	l.Hear(reply(txn(5, 1), api.Answer{Code: api.ErrMoved}))
	want(t, "P23.2: who waits no more", l.Retry(5), api.ErrArg)
	want(t, "P23.2: asks", l.Invoke(5, put), api.OK)
	l.Hear(reply(txn(5, 1), ok))
	want(t, "P23.2: who waits for the next", l.Retry(5), api.OK)
	want(t, "P23.3: events", l.Events(), []api.Event{
		{Txn: txn(5, 1), Req: put},
		{Txn: txn(2, 1), Req: put},
		{Txn: txn(5, 1), Req: put, Answered: true, Answer: ok, At: 2},
		{Txn: txn(5, 2), Req: put, At: 2},
	})
	want(t, "P23.3: marks", l.Marks(), []api.Mark{{Txn: txn(5, 1), Commit: true}, {Txn: txn(2, 1)}})
}

// TestLast: a client makes so many requests, and no more.
func TestLast(t *testing.T) {
	l := lobby.New(1, 1)
	for seq := 1; seq <= api.MaxSeq; seq++ {
		if e := l.Invoke(1, put); e != api.OK {
			t.Fatalf("P23.2: request %d: %d", seq, e)
		}
		if seq == api.MaxSeq {
			want(t, "P23.2: waits for the last one", l.Invoke(1, put), api.ErrBusy)
		}
		l.Hear(reply(txn(1, seq), api.Answer{}))
	}
	events := len(l.Events())
	want(t, "P23.2: one more", l.Invoke(1, put), api.ErrLong)
	want(t, "P23.2: unfit", l.Invoke(1, api.Request{}), api.ErrArg)
	want(t, "R3: events", len(l.Events()), events)
	want(t, "P23.2: who waits no more", l.Retry(1), api.ErrArg)
}

func TestWay(t *testing.T) {
	l := lobby.New(1, 1)
	want(t, "P23.1: nothing is under way", l.Empty(), true)
	for _, at := range []int{-1, 0, 1} {
		_, e := l.Take(at)
		want(t, "P23.2: none to take", e, api.ErrArg)
		want(t, "P23.2: none to double", l.Double(at), api.ErrArg)
	}
	var all []api.Message
	for i := range 998 {
		all = append(all, ask(0, txn(1, i+1), put))
	}
	l.Send(all...)
	want(t, "P23.2: one more", l.Double(1), api.OK)
	l.Send(ask(0, txn(3, 1), put), ask(0, txn(4, 1), put), ask(0, txn(5, 1), put))
	all = append(all, all[1], ask(0, txn(3, 1), put))
	want(t, "P23.2: what there is room for", l.Way(), all)
	want(t, "P23.2: full", l.Double(0), api.ErrLong)
	want(t, "P23.2: full, and none", l.Double(1000), api.ErrArg)
	want(t, "P23.2: full, and none", l.Double(-1), api.ErrArg)
	l.Send(all[0])
	want(t, "P23.2: lost", l.Way(), all)
	for _, at := range []int{999, 500, 0} {
		m, e := l.Take(at)
		want(t, "P23.2: taken", m, all[at])
		want(t, "P23.2: taken", e, api.OK)
		all = slices.Delete(all, at, at+1)
		want(t, "P23.2: the others", l.Way(), all)
	}
	_, e := l.Take(997)
	want(t, "P23.2: none", e, api.ErrArg)
	want(t, "P23.2: not empty", l.Empty(), false)
}

// TestMemory: what is told is nobody else's.
func TestMemory(t *testing.T) {
	l := lobby.New(1, 2)
	l.Invoke(1, put)
	l.Hear(reply(txn(1, 1), api.Answer{Fills: []api.Fill{{Buyer: 1}}}))
	l.Mark(api.Mark{Txn: txn(1, 1)})
	l.Send(api.Message{Kind: api.MsgVote, Cells: []api.Cell{{Account: api.Account{Free: []api.Amount{{N: 1}}}}}})
	l.Double(1)
	way, events, marks := l.Way(), l.Events(), l.Marks()
	way[0].Kind, way[1].Cells[0].Account.Free[0].N = 9, 9
	want(t, "R5: two that are alike", way[2].Cells[0].Account.Free[0].N, 1)
	events[0].At, events[1].Answer.Fills[0].Buyer, marks[0].Commit = 9, 9, true
	want(t, "R5: what is under way", l.Way()[1].Cells[0].Account.Free[0].N, 1)
	want(t, "R5: events", l.Events()[1].Answer.Fills[0].Buyer, 1)
	want(t, "R5: events", l.Events()[0].At, 0)
	want(t, "R5: marks", l.Marks()[0].Commit, false)
}
