package part_test

import (
	"slices"
	"testing"

	"rialto/api"
	"rialto/book"
	"rialto/part"
)

// deed is a request at a cell: how it is judged, and what is done.
type deed struct {
	cell    api.Cell
	req     api.Request
	given   []api.Amount // with the decision
	code    api.Errno
	shown   []api.Amount
	becomes func(c *api.Cell)
	answer  api.Answer
}

func purse(count int, l ...api.Amount) api.Cell {
	return api.Cell{Key: account(4), Version: 3, Account: api.Account{Free: l, Count: count}}
}

func has(count int, l ...api.Amount) func(c *api.Cell) {
	return func(c *api.Cell) { c.Account = api.Account{Free: l, Count: count} }
}

func books(l api.Lane) api.Cell { return api.Cell{Key: lane(2), Version: 7, Lane: l} }

func trades(l api.Lane) func(c *api.Cell) { return func(c *api.Cell) { c.Lane = l } }

// deal hands each deed in: the vote, the mark, and both decisions.
func deal(t *testing.T, promise string, l []deed) {
	t.Helper()
	for i, c := range l {
		yes := c.code == api.OK
		key, txn := c.cell.Key, name(1, 1)
		d := newDesk(t, 3)
		d.bring(1, c.cell)
		told, marks := d.prepare(txn, key, c.req)
		marked := []api.Mark{{Txn: txn}}
		if c.code != api.ErrRejected {
			marked = nil
		}
		if len(told) != 0 || !same(marks, marked) {
			t.Errorf("%s: %d: %v, %v", promise, i, told, marks)
		}
		vote := api.Message{Kind: api.MsgVote, From: 3, To: 1, Txn: txn, Key: key, Yes: yes, Answer: api.Answer{Code: c.code, Amounts: c.shown}}
		if out := part.Out(d.p); !same(out, []api.Message{vote}) {
			t.Errorf("%s: %d: %v, want %v", promise, i, out, vote)
		}
		if cell, ok := d.cell(key); !ok || !same(cell, c.cell) {
			t.Errorf("%s: %d: a vote makes %v", promise, i, cell)
		}
		against := &desk{t, clone(d.p)}
		told, marks = against.finish(txn, key, false)
		if cell, ok := against.cell(key); !ok || !same(cell, c.cell) || !same(told, []api.Message{ack(3, 1, txn, key, api.Answer{})}) || len(marks) != 0 {
			t.Errorf("%s: %d: decided against: %v, %v, %v", promise, i, cell, told, marks)
		}
		told, marks = d.hand(api.Message{Kind: api.MsgFinish, From: 1, To: 3, Txn: txn, Key: key, Yes: true, Answer: api.Answer{Amounts: c.given}})
		want := cloneCell(c.cell)
		var acks []api.Message
		if yes {
			c.becomes(&want)
			acks = []api.Message{ack(3, 1, txn, key, c.answer)}
		}
		if cell, ok := d.cell(key); !ok || !same(cell, want) || !same(told, acks) || len(marks) != 0 || (len(d.p.Pends) == 0) != yes {
			t.Errorf("%s: %d: decided for: %v, %v, %v, want %v, %v", promise, i, cell, told, marks, want, acks)
		}
		if again, _ := d.finish(txn, key, true); !same(again, acks) {
			t.Errorf("P18.5: %d: %v, then %v", i, acks, again)
		}
	}
}

const (
	most   = 1 << 53
	half   = 1 << 52
	eighth = 1 << 50
	counts = 1000000000
)

func TestPurses(t *testing.T) {
	put := func(asset, n int) api.Request {
		return api.Request{Kind: api.ReqDeposit, Account: 4, Asset: asset, N: n}
	}
	take := func(asset, n int) api.Request {
		return api.Request{Kind: api.ReqWithdraw, Account: 4, Asset: asset, N: n}
	}
	order := func(side, price, n int) api.Request {
		return api.Request{Kind: api.ReqOrder, Account: 4, Lane: 2, Side: side, Price: price, N: n}
	}
	read := api.Request{Kind: api.ReqRead, Account: 4}
	c := purse(7, amount(0, 100), amount(2, 5))
	full := purse(counts, amount(0, 100))
	deal(t, "P18.2, P18.3", []deed{
		{cell: c, req: put(0, 50), becomes: has(8, amount(0, 150), amount(2, 5))},
		{cell: c, req: put(1, 1), becomes: has(8, amount(0, 100), amount(1, 1), amount(2, 5))},
		{cell: purse(0), req: put(3, 1000000), becomes: has(1, amount(3, 1000000))},
		{cell: purse(0, amount(0, most-1000000)), req: put(0, 1000000), becomes: has(1, amount(0, most))},
		{cell: purse(0, amount(0, most-999999)), req: put(0, 1000000), code: api.ErrRejected},
		{cell: full, req: put(0, 1), code: api.ErrRejected},
		{cell: purse(counts - 1), req: put(0, 1), becomes: has(counts, amount(0, 1))},
		{cell: c, req: take(0, 100), becomes: has(8, amount(2, 5))},
		{cell: c, req: take(0, 101), code: api.ErrRejected},
		{cell: c, req: take(2, 4), becomes: has(8, amount(0, 100), amount(2, 1))},
		{cell: c, req: take(1, 1), code: api.ErrRejected},
		{cell: full, req: take(0, 1), code: api.ErrRejected},
		{cell: c, req: order(api.Buy, 10, 10), becomes: has(8, amount(2, 5))},
		{cell: c, req: order(api.Buy, 9, 11), becomes: has(8, amount(0, 1), amount(2, 5))},
		{cell: c, req: order(api.Buy, 101, 1), code: api.ErrRejected},
		{cell: c, req: order(api.Sell, 1000000, 5), becomes: has(8, amount(0, 100))},
		{cell: c, req: order(api.Sell, 1, 6), code: api.ErrRejected},
		{cell: purse(1, amount(0, 100), amount(1, 9), amount(3, 9)), req: order(api.Sell, 1, 1), code: api.ErrRejected},
		{cell: purse(1, amount(0, most)), req: order(api.Buy, 1000000, 1000000), becomes: has(2, amount(0, most-1000000000000))},
		{cell: full, req: order(api.Buy, 1, 1), code: api.ErrRejected},
		{cell: c, req: read, shown: c.Account.Free, becomes: has(7, c.Account.Free...), answer: api.Answer{Amounts: c.Account.Free}},
		{cell: purse(5), req: read, becomes: has(5)},
		{cell: full, req: read, shown: full.Account.Free, becomes: has(counts, amount(0, 100)), answer: api.Answer{Amounts: full.Account.Free}},
	})
}

// TestNetPurse: an account gets what the decision gives; what cannot be credited is left out, of the answer, too.
func TestNetPurse(t *testing.T) {
	net := api.Request{Kind: api.ReqNet, Account: 4}
	c := purse(7, amount(0, 100), amount(2, 5))
	two := amounts(amount(0, 10), amount(3, 1))
	owe := amounts(amount(0, 3*eighth), amount(1, eighth), amount(2, eighth), amount(3, eighth))
	deal(t, "P18.2, P18.3", []deed{
		{cell: c, req: net, becomes: has(7, c.Account.Free...)},
		{cell: c, req: net, given: two, becomes: has(9, amount(0, 110), amount(2, 5), amount(3, 1)), answer: api.Answer{Amounts: two}},
		{cell: purse(0, amount(0, half)), req: net, given: owe, becomes: has(4, amount(0, half+3*eighth), amount(1, eighth), amount(2, eighth), amount(3, eighth)), answer: api.Answer{Amounts: owe}},
		{cell: purse(0, amount(0, half+1)), req: net, code: api.ErrRejected},
		{cell: purse(0, amount(0, 1), amount(3, half)), req: net, becomes: has(0, amount(0, 1), amount(3, half))},
		{cell: purse(0, amount(0, 1), amount(3, half+1)), req: net, code: api.ErrRejected},
		{cell: purse(999999900), req: net, given: two, becomes: has(999999902, two...), answer: api.Answer{Amounts: two}},
		{cell: purse(999999901), req: net, code: api.ErrRejected},
		{cell: c, req: net, given: amounts(amount(4, 1), amount(0, 10), amount(-1, 1), amount(0, 0), amount(1, most+1), amount(1, -1), amount(0, most), amount(2, 1)),
			becomes: has(9, amount(0, 110), amount(2, 6)), answer: api.Answer{Amounts: amounts(amount(0, 10), amount(2, 1))}},
		{cell: c, req: net, given: amounts(amount(1, most), amount(1, 1)), becomes: has(8, amount(0, 100), amount(1, most), amount(2, 5)), answer: api.Answer{Amounts: amounts(amount(1, most))}},
		{cell: c, req: net, given: amounts(amount(3, 2), amount(0, 1), amount(3, 2)), becomes: has(10, amount(0, 101), amount(2, 5), amount(3, 4)), answer: api.Answer{Amounts: amounts(amount(3, 2), amount(0, 1), amount(3, 2))}},
	})
}

func owed(account, asset, n int) api.Owed { return api.Owed{Account: account, Asset: asset, N: n} }

func TestBooks(t *testing.T) {
	order := func(side, price, n int, now bool) api.Request {
		return api.Request{Kind: api.ReqOrder, Account: 4, Lane: 2, Side: side, Price: price, N: n, Now: now}
	}
	cancel := func(account, id int) api.Request {
		return api.Request{Kind: api.ReqCancel, Account: account, Lane: 2, N: id}
	}
	call, uncross := api.Request{Kind: api.ReqCall, Lane: 2}, api.Request{Kind: api.ReqUncross, Lane: 2}
	bid, ask := api.Order{Id: 2, Account: 4, Price: 9, Left: 3}, api.Order{Id: 3, Account: 1, Price: 12, Left: 5}
	l := api.Lane{Next: 4, Bids: []api.Order{bid}, Asks: []api.Order{ask}, Owed: []api.Owed{owed(1, 0, 8)}}
	called, last, rich := l, l, l
	called.Call, last.Next, rich.Owed = true, 1000001, []api.Owed{owed(4, 0, most-26)}
	over := l
	over.Owed = []api.Owed{owed(1, 0, most)}
	crossed := api.Lane{Call: true, Next: 4, Bids: []api.Order{{Id: 2, Account: 4, Price: 13, Left: 3}}, Asks: []api.Order{ask}}
	fill := func(buyer, seller, price, n int) []api.Fill {
		return []api.Fill{{Buyer: buyer, Seller: seller, Price: price, N: n}}
	}
	deal(t, "P18.2, P18.3", []deed{
		{cell: books(l), req: order(api.Buy, 14, 6, false), answer: api.Answer{Num: 4, Fills: fill(4, 1, 12, 5)},
			becomes: trades(api.Lane{Next: 5, Bids: []api.Order{{Id: 4, Account: 4, Price: 14, Left: 1}, bid}, Owed: []api.Owed{owed(1, 0, 68), owed(4, 0, 10), owed(4, 1, 5)}})},
		{cell: books(l), req: order(api.Buy, 14, 6, true), answer: api.Answer{Num: 4, Fills: fill(4, 1, 12, 5)},
			becomes: trades(api.Lane{Next: 5, Bids: []api.Order{bid}, Owed: []api.Owed{owed(1, 0, 68), owed(4, 0, 24), owed(4, 1, 5)}})},
		{cell: books(book.New()), req: order(api.Sell, 5, 2, false), answer: api.Answer{Num: 1},
			becomes: trades(api.Lane{Next: 2, Asks: []api.Order{{Id: 1, Account: 4, Price: 5, Left: 2}}})},
		{cell: books(called), req: order(api.Buy, 14, 6, true), code: api.ErrRejected},
		{cell: books(called), req: order(api.Buy, 14, 6, false), answer: api.Answer{Num: 4},
			becomes: trades(api.Lane{Call: true, Next: 5, Bids: []api.Order{{Id: 4, Account: 4, Price: 14, Left: 6}, bid}, Asks: l.Asks, Owed: l.Owed})},
		{cell: books(last), req: order(api.Buy, 1, 1, false), code: api.ErrRejected},
		{cell: books(over), req: order(api.Buy, 12, 1, false), code: api.ErrRejected},
		{cell: books(over), req: order(api.Buy, 11, 1, false), answer: api.Answer{Num: 4},
			becomes: trades(api.Lane{Next: 5, Bids: []api.Order{{Id: 4, Account: 4, Price: 11, Left: 1}, bid}, Asks: l.Asks, Owed: over.Owed})},
		{cell: books(l), req: cancel(4, 2), answer: api.Answer{Num: 3},
			becomes: trades(api.Lane{Next: 4, Asks: l.Asks, Owed: []api.Owed{owed(1, 0, 8), owed(4, 0, 27)}})},
		{cell: books(l), req: cancel(1, 3), answer: api.Answer{Num: 5},
			becomes: trades(api.Lane{Next: 4, Bids: l.Bids, Owed: []api.Owed{owed(1, 0, 8), owed(1, 1, 5)}})},
		{cell: books(l), req: cancel(1, 2), code: api.ErrRejected},
		{cell: books(l), req: cancel(4, 1), code: api.ErrRejected},
		{cell: books(rich), req: cancel(4, 2), code: api.ErrRejected},
		{cell: books(l), req: call, becomes: trades(called)},
		{cell: books(called), req: call, code: api.ErrRejected},
		{cell: books(l), req: uncross, code: api.ErrRejected},
		{cell: books(called), req: uncross, becomes: trades(l)},
		{cell: books(crossed), req: uncross, answer: api.Answer{Fills: fill(4, 1, 12, 3)},
			becomes: trades(api.Lane{Next: 4, Asks: []api.Order{{Id: 3, Account: 1, Price: 12, Left: 2}}, Owed: []api.Owed{owed(1, 0, 36), owed(4, 0, 3), owed(4, 1, 3)}})},
	})
}

func TestNetBook(t *testing.T) {
	net := api.Request{Kind: api.ReqNet, Account: 4}
	bids := []api.Order{{Id: 2, Account: 4, Price: 9, Left: 3}}
	l := func(o ...api.Owed) api.Lane { return api.Lane{Next: 4, Bids: bids, Owed: o} }
	others := []api.Owed{owed(3, 0, most), owed(3, 1, most), owed(5, 0, most)}
	deal(t, "P18.2, P18.3", []deed{
		{cell: books(l(owed(4, 0, 7), owed(4, 1, 8))), req: net, shown: amounts(amount(0, 7), amount(2, 8)), becomes: trades(l())},
		{cell: books(l(owed(3, 0, 1), owed(4, 1, eighth), owed(5, 0, 1))), req: net, shown: amounts(amount(2, eighth)), becomes: trades(l(owed(3, 0, 1), owed(5, 0, 1)))},
		{cell: books(l(owed(4, 0, eighth))), req: net, shown: amounts(amount(0, eighth)), given: amounts(amount(0, 5)), becomes: trades(l())},
		{cell: books(l(owed(4, 0, eighth+1))), req: net, code: api.ErrRejected},
		{cell: books(l(owed(4, 0, 1), owed(4, 1, eighth+1))), req: net, code: api.ErrRejected},
		{cell: books(l(others...)), req: net, becomes: trades(l(others...))},
	})
	// the goods go by the number of each lane
	for n := 1; n <= 3; n++ {
		d := newDesk(t, 0)
		d.bring(1, api.Cell{Key: lane(n), Version: 1, Lane: l(owed(4, 0, 6), owed(4, 1, 5))})
		d.prepare(name(1, 1), lane(n), net)
		if out := part.Out(d.p); !same(out[0].Answer.Amounts, amounts(amount(0, 6), amount(n, 5))) {
			t.Errorf("P18.2: lane %d: %v", n, out)
		}
	}
}

// TestMoves moves an account and a lane out and in: what the vote tells is what was here, and it comes in with its Version one more.
func TestMoves(t *testing.T) {
	for _, c := range []api.Cell{purse(5, amount(0, 7), amount(3, most)), books(api.Lane{Call: true, Next: 3, Bids: []api.Order{{Id: 2, Account: 4, Price: 9, Left: 3}}, Owed: []api.Owed{owed(1, 1, 6)}})} {
		from, to := newDesk(t, 3, account(1), lane(1)), newDesk(t, 0, account(1), account(8), lane(1), lane(3))
		from.bring(1, c)
		r, txn := api.Request{Kind: api.ReqMove, Key: c.Key, To: 0}, name(1, 1)
		from.prepare(txn, c.Key, r)
		to.prepare(txn, c.Key, r)
		vote := api.Message{Kind: api.MsgVote, From: 3, To: 1, Txn: txn, Key: c.Key, Yes: true, Cells: []api.Cell{c}}
		if out := part.Out(from.p); !same(out, []api.Message{vote}) {
			t.Errorf("P18.2: %v", out)
		}
		if out := part.Out(to.p); !same(out, []api.Message{{Kind: api.MsgVote, To: 1, Txn: txn, Key: c.Key, Yes: true}}) {
			t.Errorf("P18.2: %v", out)
		}
		stay, empty := &desk{t, clone(from.p)}, &desk{t, clone(to.p)}
		stay.finish(txn, c.Key, false)
		if got, ok := stay.cell(c.Key); !ok || !same(got, c) {
			t.Errorf("P18.3: decided against: %v", got)
		}
		if told, _ := empty.finish(txn, c.Key, true); len(told) != 1 || len(empty.p.Cells) != 4 {
			t.Errorf("P18.3: with no cell: %v, %v", told, empty.p)
		}
		f := api.Message{Kind: api.MsgFinish, From: 1, To: 3, Txn: txn, Key: c.Key, Yes: true, Cells: []api.Cell{c}}
		for range 2 {
			if told, _ := from.hand(f); !same(told, []api.Message{ack(3, 1, txn, c.Key, api.Answer{})}) || len(from.p.Cells) != 2 {
				t.Errorf("P18.3: %v, %v", told, from.p)
			}
		}
		f.To = 0
		c.Version++
		for range 2 {
			told, _ := to.hand(f)
			if got, ok := to.cell(c.Key); !ok || !same(got, c) || len(to.p.Cells) != 5 || !same(told, []api.Message{ack(0, 1, txn, c.Key, api.Answer{})}) {
				t.Errorf("P18.3: %v, %v", got, told)
			}
		}
		if !slices.IsSortedFunc(to.p.Cells, func(a, b api.Cell) int { return 10*a.Key.Kind + a.Key.N - 10*b.Key.Kind - b.Key.N }) {
			t.Errorf("P18.3: %v", to.p.Cells)
		}
	}
}

// TestMoveToSelf: where the cell is here, it goes, whereto a move may say.
func TestMoveToSelf(t *testing.T) {
	d := newDesk(t, 1, account(1))
	cell := d.p.Cells[0]
	d.prepare(name(1, 1), account(1), api.Request{Kind: api.ReqMove, Key: account(1), To: 1})
	if !d.p.Pends[0].Yes || !same(d.p.Pends[0].Cells, []api.Cell{cell}) {
		t.Errorf("P18.2: %v", d.p)
	}
	d.hand(api.Message{Kind: api.MsgFinish, From: 1, To: 1, Txn: name(1, 1), Key: account(1), Yes: true, Cells: []api.Cell{cell}})
	if len(d.p.Cells) != 0 {
		t.Errorf("P18.3: %v", d.p)
	}
	// the last Version that may be handed in still becomes one more
	cell.Version = 1000000
	d.prepare(name(1, 2), account(1), api.Request{Kind: api.ReqMove, Key: account(1), To: 1})
	d.hand(api.Message{Kind: api.MsgFinish, From: 1, To: 1, Txn: name(1, 2), Key: account(1), Yes: true, Cells: []api.Cell{cell}})
	if len(d.p.Cells) != 1 || d.p.Cells[0].Version != 1000001 {
		t.Errorf("P18.3: %v", d.p)
	}
}
