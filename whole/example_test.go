package whole

import (
	"slices"
	"testing"

	"rialto/api"
)

// The document's ten examples of the whole, in exchanges of both kinds.

// sites are exchanges of several sizes.
func sites(t *testing.T) []site {
	t.Helper()
	var l []site
	for groups := 1; groups <= 4; groups++ {
		l = append(l, newWorld(t, groups, 6))
	}
	for nodes := 1; nodes <= 5; nodes += 2 {
		l = append(l, newCity(t, api.ClusterConfig{Groups: 2, Nodes: nodes, Clients: 6}))
	}
	return l
}

// answer is what a client is answered, when nothing falls.
func answer(t *testing.T, s site, client int, r api.Request) api.Answer {
	t.Helper()
	if e := s.invoke(client, r); e != api.OK {
		t.Fatalf("P23.2: client %d asks %s: %d", client, brief(r), e)
	}
	for range 184 {
		s.round()
		l := s.events()
		if last := l[len(l)-1]; last.Answered {
			return last.Answer
		}
	}
	t.Fatalf("P5: client %d is not answered to %s", client, brief(r))
	return api.Answer{}
}

func wantAnswer(t *testing.T, s site, client int, r api.Request, want api.Answer) {
	t.Helper()
	if a := answer(t, s, client, r); !same(a, want) {
		t.Errorf("P1: %T: client %d asks %s: %s, want %s", s, client, brief(r), brief(a), brief(want))
	}
}

// cellsOf are the cells of all groups.
func cellsOf(s site) []api.Cell {
	var l []api.Cell
	for _, x := range s.shards() {
		l = append(l, x.Part.Cells...)
	}
	return l
}

func TestOneByOne(t *testing.T) {
	for _, s := range sites(t) {
		ok, rejected := api.Answer{}, api.Answer{Code: api.ErrRejected}
		wantAnswer(t, s, 1, deposit(1, 0, 100), ok)
		wantAnswer(t, s, 2, withdraw(1, 0, 101), rejected)
		wantAnswer(t, s, 3, withdraw(1, 0, 100), ok)

		wantAnswer(t, s, 4, deposit(1, 0, 100), ok)
		wantAnswer(t, s, 5, deposit(2, 1, 5), ok)
		wantAnswer(t, s, 6, order(2, 1, api.Sell, 10, 5), api.Answer{Num: 1})
		wantAnswer(t, s, 1, order(1, 1, api.Buy, 12, 5), api.Answer{Num: 2, Fills: []api.Fill{{Buyer: 1, Seller: 2, Price: 10, N: 5}}})
		wantAnswer(t, s, 2, net(1), api.Answer{Amounts: []api.Amount{{N: 10}, {Asset: 1, N: 5}}})
		wantAnswer(t, s, 3, read(1), api.Answer{Amounts: []api.Amount{{N: 50}, {Asset: 1, N: 5}}})

		was := cellsOf(s)
		if len(was) != api.MaxAccounts+api.MaxLanes {
			t.Fatalf("P1: %d cells", len(was))
		}
		wantAnswer(t, s, 4, order(1, 1, api.Buy, 51, 1), rejected)
		if is := cellsOf(s); !same(is, was) {
			t.Errorf("P1: what was rejected left %s, there was %s", brief(is), brief(was))
		}

		wantAnswer(t, s, 5, api.Request{Kind: api.ReqCall, Lane: 1}, ok)
		wantAnswer(t, s, 6, order(1, 1, api.Buy, 6, 2), api.Answer{Num: 3})
		wantAnswer(t, s, 1, order(1, 1, api.Sell, 2, 5), api.Answer{Num: 4})
		if a := answer(t, s, 2, api.Request{Kind: api.ReqUncross, Lane: 1}); a.Code != api.OK || len(a.Fills) != 1 || a.Fills[0].N != 2 {
			t.Errorf("P1: %s", brief(a))
		}
		entire(t, s, judge(t, s))
	}
}

// TestAtOnce: of clients who touch the same keys at once each waits, is wounded, or finds too many ahead of it; whoever was refused may ask again.
func TestAtOnce(t *testing.T) {
	refused := map[api.Errno]int{}
	for _, s := range sites(t) {
		answer(t, s, 1, deposit(1, 0, 1000))
		for seq := range 8 {
			for client := 6; client >= 1; client-- {
				if e := s.invoke(client, order(1, 1+(seq+client)%2, api.Buy, 1, 1)); e != api.OK {
					t.Fatalf("P23.2: %d", e)
				}
			}
			for range 84 {
				s.round()
			}
			if n := waiting(s); n > 0 {
				t.Fatalf("P5: %d still wait", n)
			}
		}
		for _, f := range fates(t, s) {
			refused[f.answer.Code]++
		}
		entire(t, s, judge(t, s))
	}
	if refused[api.ErrRejected] > 0 || refused[api.ErrMoved] > 0 || refused[api.OK] < 100 || refused[api.ErrWounded]+refused[api.ErrBusy] == 0 {
		t.Errorf("P1: %v", refused)
	}
}

// TestMoves: where keys are is no client's matter: whoever asks an old place is told ErrMoved, asks again, and is answered as if nothing had been moved.
func TestMoves(t *testing.T) {
	asks := []api.Request{
		deposit(1, 0, 500), deposit(2, 2, 50), order(2, 2, api.Sell, 5, 10), order(1, 2, api.Buy, 6, 4), net(1), read(1), withdraw(1, 0, 481),
		order(1, 2, api.Buy, 4, 3), {Kind: api.ReqCancel, Account: 1, Lane: 2, N: 3}, net(2), withdraw(2, 0, 20), net(1), read(1), read(2), withdraw(1, 0, 480),
	}
	still := newWorld(t, 4, 2)
	var want []api.Answer
	for _, r := range asks {
		want = append(want, answer(t, still, 2, r))
	}
	moved := 0
	for _, s := range []site{newWorld(t, 4, 2), newWorld(t, 2, 2), newCity(t, api.ClusterConfig{Groups: 3, Nodes: 3, Clients: 2})} {
		groups := len(s.shards())
		for i, r := range asks {
			for k, key := range []api.Key{account(1), lane(2), account(2)} {
				if a := answer(t, s, 1, move(key, (i+k)%groups)); a.Code != api.OK && a.Code != api.ErrRejected {
					t.Fatalf("P6: %s", brief(a))
				}
			}
			a := answer(t, s, 2, r)
			for n := 0; a.Code == api.ErrMoved && n < 4; n++ { // once for each of its keys
				moved++
				a = answer(t, s, 2, r)
			}
			if !same(a, want[i]) {
				t.Errorf("P6: %s: %s, where nothing is moved %s", brief(r), brief(a), brief(want[i]))
			}
		}
		entire(t, s, judge(t, s))
	}
	if moved < 5 {
		t.Errorf("P6: %d asked an old place", moved)
	}
}

// TestLostAnswer: the client asks again, and is told the same; nothing is done twice.
func TestLostAnswer(t *testing.T) {
	w := newWorld(t, 2, 1)
	w.invoke(1, deposit(2, 0, 7))
	lost := 0
	for n := 0; lost < 3 && n < 20; n++ {
		w.Do(api.Act{Kind: api.ActRetry, Client: 1})
		for g := range 2 {
			w.Do(api.Act{Kind: api.ActTick, Group: g})
		}
		for l := w.Net(); len(l) > 0; l = w.Net() {
			kind := api.ActDeliver
			if l[0].Kind == api.MsgAnswer {
				kind = api.ActDrop
				lost++
			}
			w.Do(api.Act{Kind: kind})
		}
	}
	if lost != 3 || waiting(w) != 1 {
		t.Fatalf("%d answers are lost", lost)
	}
	w.inTheEnd()
	wantAnswer(t, w, 1, read(2), api.Answer{Amounts: []api.Amount{{N: 7}}})
	if l := w.Marks(); len(l) != 2 {
		t.Errorf("P1: the marks are %v", l)
	}
	judge(t, w)
}

// TestLatePrepare: what comes again when all is over is nothing.
func TestLatePrepare(t *testing.T) {
	w := newWorld(t, 2, 1)
	w.invoke(1, deposit(2, 0, 7))
	w.Do(api.Act{Kind: api.ActDeliver})
	w.Do(api.Act{Kind: api.ActTick, Group: 1})
	for n := 0; waiting(w) > 0 && n < 99; n++ { // the first message, a MsgPrepare, is doubled, and left until all is over
		if n == 0 {
			w.Do(api.Act{Kind: api.ActDouble})
		}
		for g := range 2 {
			w.Do(api.Act{Kind: api.ActTick, Group: g})
		}
		for len(w.Net()) > 1 {
			w.Do(api.Act{Kind: api.ActDeliver, N: 1})
		}
	}
	l := w.Net()
	if len(l) != 1 || l[0].Kind != api.MsgPrepare || waiting(w) > 0 {
		t.Fatalf("%s is under way", brief(l))
	}
	was := w.Shards()
	w.Do(api.Act{Kind: api.ActDeliver})
	if !same(w.Shards(), was) || len(w.Net()) != 0 || len(w.Marks()) != 1 {
		t.Errorf("P3: a MsgPrepare came again: %s", brief(w.Net()))
	}
}

// TestMoveWaits: a key that is locked stays until it is free. Behind that its old group tells where it is.
func TestMoveWaits(t *testing.T) {
	w := newWorld(t, 4, 4)
	answer(t, w, 4, deposit(4, 0, 7)) // account 4 is in group 0
	hand := func(client int, r api.Request) {
		w.invoke(client, r)
		w.Do(api.Act{Kind: api.ActDeliver})
		w.Do(api.Act{Kind: api.ActTick, Group: client}) // its home
		for len(w.Net()) > 0 {
			w.Do(api.Act{Kind: api.ActDeliver})
		}
	}
	hand(1, withdraw(4, 0, 3))
	hand(2, move(account(4), 1))
	first, second := api.Txn{Client: 1, Seq: 1}, api.Txn{Client: 2, Seq: 1}
	held := w.Shards()[0].Part.Locks
	if !slices.Equal(held.Held, []api.Hold{{Key: account(4), Txn: first}}) || !slices.Equal(held.Wait, []api.Hold{{Key: account(4), Txn: second}}) {
		t.Fatalf("P6: %s", brief(held))
	}
	w.inTheEnd()
	if all := fates(t, w); all[first].answer.Code != api.OK || all[second].answer.Code != api.OK {
		t.Fatalf("P6: %s, %s", brief(all[first]), brief(all[second]))
	}
	wantAnswer(t, w, 3, read(4), api.Answer{Code: api.ErrMoved})
	if l := w.Shards()[3].Map; !slices.Equal(l, []api.Place{{Key: account(4), Group: 1, Version: 1}}) {
		t.Errorf("P6: it is told to be at %v", l)
	}
	wantAnswer(t, w, 3, read(4), api.Answer{Amounts: []api.Amount{{N: 4}}})
	entire(t, w, judge(t, w))
}
