package model_test

import (
	"testing"

	"rialto/api"
	"rialto/book"
	"rialto/model"
)

// desk is a model of which each call is held against the words.
type desk struct {
	*testing.T
	m api.Model
}

// do hands a request in: P22.4 and R5 hold, whatever it is.
func (d *desk) do(r api.Request) api.Answer {
	d.Helper()
	was := clone(d.m)
	next, a := model.Do(d.m, r)
	want, answer := plainDo(d.m, r)
	if !same(next, want) || !same(a, answer) {
		d.Fatalf("P22.2: %+v: %s, %s, want %s, %s", r, brief(next), brief(a), brief(want), brief(answer))
	}
	if !same(d.m, was) {
		d.Fatalf("R5: %+v changes %s", r, brief(was))
	}
	holdApart(d.T, d.m, next, a)
	before, behind := d.total(d.m), d.total(next)
	if a.Code == api.OK && r.Kind == api.ReqDeposit {
		before[r.Asset] += r.N
	} else if a.Code == api.OK && r.Kind == api.ReqWithdraw {
		before[r.Asset] -= r.N
	}
	if before != behind {
		d.Fatalf("P22.4: %+v: %v, want %v", r, behind, before)
	}
	d.m = next
	return a
}

func (d *desk) total(m api.Model) [4]int {
	d.Helper()
	l, want := model.Total(m), plainTotal(m)
	if !same(l, want) {
		d.Fatalf("P22.3: %v, want %v of %s", l, want, brief(m))
	}
	holdApart(d.T, m, l)
	var sum [4]int
	for _, a := range l {
		sum[a.Asset] = a.N
	}
	return sum
}

func put(account, asset, n int) api.Request {
	return api.Request{Kind: api.ReqDeposit, Account: account, Asset: asset, N: n}
}

func take(account, asset, n int) api.Request {
	return api.Request{Kind: api.ReqWithdraw, Account: account, Asset: asset, N: n}
}

func order(account, lane, side, price, n int) api.Request {
	return api.Request{Kind: api.ReqOrder, Account: account, Lane: lane, Side: side, Price: price, N: n}
}

func cancel(account, lane, id int) api.Request {
	return api.Request{Kind: api.ReqCancel, Account: account, Lane: lane, N: id}
}

func call(lane int) api.Request { return api.Request{Kind: api.ReqCall, Lane: lane} }

func uncross(lane int) api.Request { return api.Request{Kind: api.ReqUncross, Lane: lane} }

func net(account int) api.Request { return api.Request{Kind: api.ReqNet, Account: account} }

func read(account int) api.Request { return api.Request{Kind: api.ReqRead, Account: account} }

func TestNew(t *testing.T) {
	m := model.New()
	if !same(m, plainNew()) || len(model.Total(m)) != 0 {
		t.Errorf("P22.1: %s", brief(m))
	}
	holdApart(t, m, model.New())
}

func TestExample(t *testing.T) {
	d := &desk{t, model.New()}
	d.do(put(1, 0, 100))
	d.do(put(2, 1, 5))
	if a := d.do(order(2, 1, api.Sell, 10, 5)); !same(a, api.Answer{Num: 1}) {
		t.Errorf("P22.2: %v", a)
	}
	if a := d.do(order(1, 1, api.Buy, 12, 5)); !same(a, api.Answer{Num: 2, Fills: []api.Fill{{Buyer: 1, Seller: 2, Price: 10, N: 5}}}) {
		t.Errorf("P22.2: %v", a)
	}
	if l := model.Total(d.m); !same(l, amounts(amount(0, 100), amount(1, 5))) {
		t.Errorf("P22.3: %v", l)
	}
	if a := d.do(net(1)); !same(a, api.Answer{Amounts: amounts(amount(0, 10), amount(1, 5))}) {
		t.Errorf("P22.2: %v", a)
	}
	if a := d.do(net(2)); !same(a, api.Answer{Amounts: amounts(amount(0, 50))}) {
		t.Errorf("P22.2: %v", a)
	}
	if a := d.do(net(2)); !same(a, api.Answer{}) {
		t.Errorf("P22.2: %v", a)
	}
	if a := d.do(read(1)); !same(a, api.Answer{Amounts: amounts(amount(0, 50), amount(1, 5))}) {
		t.Errorf("P22.2: %v", a)
	}
	if d.m.Accounts[0].Count != 4 || d.m.Accounts[1].Count != 3 {
		t.Errorf("P22.2: %v", d.m.Accounts)
	}
}

// TestForms: of a model that may not be, or of a request that does not fit, nothing is done, and the model is answered as it is.
func TestForms(t *testing.T) {
	change := func(f func(m *api.Model)) api.Model {
		m := model.New()
		m.Accounts[2].Free = amounts(amount(0, 9))
		f(&m)
		return m
	}
	bad := []api.Model{
		{},
		change(func(m *api.Model) { m.Accounts = m.Accounts[:7] }),
		change(func(m *api.Model) { m.Accounts = append(m.Accounts, api.Account{}) }),
		change(func(m *api.Model) { m.Lanes = m.Lanes[:2] }),
		change(func(m *api.Model) { m.Lanes = append(m.Lanes, book.New()) }),
		change(func(m *api.Model) { m.Accounts[0].Count = -1 }),
		change(func(m *api.Model) { m.Accounts[7].Count = counts + 1 }),
		change(func(m *api.Model) { m.Accounts[7].Free = amounts(amount(0, 0)) }),
		change(func(m *api.Model) { m.Accounts[3].Free = amounts(amount(1, 1), amount(0, 1)) }),
		change(func(m *api.Model) { m.Accounts[3].Free = amounts(amount(4, 1)) }),
		change(func(m *api.Model) { m.Accounts[3].Free = amounts(amount(0, most+1)) }),
		change(func(m *api.Model) { m.Lanes[0].Next = 0 }),
		change(func(m *api.Model) { m.Lanes[2].Next = 1000002 }),
		change(func(m *api.Model) { m.Lanes[1].Owed = []api.Owed{owed(9, 0, 1)} }),
		change(func(m *api.Model) { m.Lanes[1].Bids = []api.Order{{Id: 1, Account: 1, Price: 1, Left: 1}} }),
	}
	move := api.Request{Kind: api.ReqMove, Key: api.Key{Kind: api.KeyAccount, N: 1}}
	for i, m := range bad {
		for _, r := range []api.Request{put(1, 0, 1), read(3), net(1), call(1), move, {}} {
			next, a := model.Do(m, r)
			if !same(next, m) || !same(a, api.Answer{Code: api.ErrArg}) {
				t.Errorf("P22.2: %d: %+v: %s, %v", i, r, brief(next), a)
			}
			holdApart(t, m, next, a)
		}
		if l := model.Total(m); len(l) != 0 {
			t.Errorf("P22.3: %d: %v", i, l)
		}
	}
	d := &desk{t, change(func(m *api.Model) {})}
	far := move
	far.To = 4
	for _, r := range []api.Request{{}, {Kind: 10}, {Kind: -1}, put(0, 0, 1), put(9, 0, 1), put(1, 4, 1), put(1, 0, 0), put(1, 0, 1000001), take(1, -1, 1), order(1, 0, 1, 1, 1), order(1, 4, 1, 1, 1), order(1, 1, 3, 1, 1), order(1, 1, 1, 0, 1), cancel(1, 1, 0), call(4), uncross(0), net(0), read(9), far, {Kind: api.ReqRead, Account: 1, N: 1}} {
		if a := d.do(r); a.Code != api.ErrArg {
			t.Errorf("P22.2: %+v: %v", r, a)
		}
	}
	for n := range 4 {
		move.To = n
		if a := d.do(move); !same(a, api.Answer{}) {
			t.Errorf("P22.2: %+v: %v", move, a)
		}
	}
}

// deed is what is asked of a model, and what comes of it.
type deed struct {
	change func(m *api.Model)
	req    api.Request
	answer api.Answer
}

// TestDeeds: each kind of request, and the edges beside which it is rejected. What a lane or an account becomes is held against the words.
func TestDeeds(t *testing.T) {
	has := func(account, count int, l ...api.Amount) func(m *api.Model) {
		return func(m *api.Model) { m.Accounts[account-1] = api.Account{Free: l, Count: count} }
	}
	owes := func(lane int, l ...api.Owed) func(m *api.Model) {
		return func(m *api.Model) { m.Lanes[lane-1].Owed = l }
	}
	next := func(lane, n int) func(m *api.Model) { return func(m *api.Model) { m.Lanes[lane-1].Next = n } }
	all := func(l ...func(m *api.Model)) func(m *api.Model) {
		return func(m *api.Model) {
			for _, f := range l {
				f(m)
			}
		}
	}
	called := func(m *api.Model) {
		m.Lanes[1] = api.Lane{Call: true, Next: 3, Bids: []api.Order{{Id: 1, Account: 4, Price: 9, Left: 3}}, Asks: []api.Order{{Id: 2, Account: 5, Price: 8, Left: 2}}}
	}
	open := func(m *api.Model) {
		called(m)
		m.Lanes[1].Call, m.Lanes[1].Asks[0].Price = false, 10
	}
	fills := []api.Fill{{Buyer: 4, Seller: 5, Price: 8, N: 2}}
	now := order(4, 2, api.Buy, 5, 2)
	now.Now = true
	none, rejected := func(m *api.Model) {}, api.Answer{Code: api.ErrRejected}
	for i, c := range []deed{
		{has(4, 0, amount(0, most-1000000)), put(4, 0, 1000000), api.Answer{}},
		{has(4, 0, amount(0, most-999999)), put(4, 0, 1000000), rejected},
		{has(4, counts-1), put(4, 3, 1), api.Answer{}},
		{has(4, counts), put(4, 3, 1), rejected},
		{has(4, 0, amount(2, 5)), take(4, 2, 5), api.Answer{}},
		{has(4, 0, amount(2, 5)), take(4, 2, 6), rejected},
		{has(4, counts, amount(2, 5)), take(4, 2, 5), rejected},
		{has(4, 0, amount(0, 10)), order(4, 2, api.Buy, 5, 2), api.Answer{Num: 1}},
		{has(4, 0, amount(0, 10)), now, api.Answer{Num: 1}},
		{has(4, 0, amount(0, 9), amount(2, 99)), order(4, 2, api.Buy, 5, 2), rejected},
		{has(4, 0, amount(2, 2)), order(4, 2, api.Sell, 1000000, 2), api.Answer{Num: 1}},
		{has(4, 0, amount(0, 99), amount(1, 9), amount(3, 9)), order(4, 2, api.Sell, 1, 1), rejected},
		{all(has(4, 0, amount(0, 10)), next(2, 1000000)), order(4, 2, api.Buy, 5, 2), api.Answer{Num: 1000000}},
		{all(has(4, 0, amount(0, 10)), next(2, 1000001)), order(4, 2, api.Buy, 5, 2), rejected},
		{all(has(4, 0, amount(0, 10)), called), now, rejected},
		{all(has(4, 0, amount(0, 20)), open), order(4, 2, api.Buy, 10, 2), api.Answer{Num: 3, Fills: []api.Fill{{Buyer: 4, Seller: 5, Price: 10, N: 2}}}},
		{open, cancel(4, 2, 1), api.Answer{Num: 3}},
		{open, cancel(5, 2, 1), rejected},
		{open, cancel(4, 1, 1), rejected},
		{open, cancel(5, 2, 2), api.Answer{Num: 2}},
		{none, call(3), api.Answer{}},
		{called, call(2), rejected},
		{called, uncross(2), api.Answer{Fills: fills}},
		{open, uncross(2), rejected},
		{none, net(4), api.Answer{}},
		{all(has(4, 999999900, amount(0, half), amount(3, half)), owes(1, owed(4, 0, eighth), owed(4, 1, 7)), owes(2, owed(3, 0, 5), owed(4, 0, eighth), owed(5, 0, most)), owes(3, owed(4, 0, eighth), owed(4, 1, eighth))),
			net(4), api.Answer{Amounts: amounts(amount(0, 3*eighth), amount(1, 7), amount(3, eighth))}},
		{has(4, 0, amount(0, half+1)), net(4), rejected},
		{has(4, 0, amount(1, 1), amount(3, half+1)), net(4), rejected},
		{has(4, 999999901), net(4), rejected},
		{owes(1, owed(4, 0, eighth+1)), net(4), rejected},
		{owes(3, owed(4, 1, eighth+1)), net(4), rejected},
		{owes(2, owed(3, 1, most), owed(4, 1, 2)), net(4), api.Answer{Amounts: amounts(amount(2, 2))}},
		{has(4, counts, amount(1, most)), read(4), api.Answer{Amounts: amounts(amount(1, most))}},
		{none, read(4), api.Answer{}},
	} {
		d := &desk{t, model.New()}
		c.change(&d.m)
		was := clone(d.m)
		a := d.do(c.req)
		if !same(a, c.answer) {
			t.Errorf("P22.2: %d: %+v: %v, want %v", i, c.req, a, c.answer)
		}
		quiet := c.req.Kind == api.ReqRead || c.req.Kind == api.ReqNet && len(a.Amounts) == 0
		if (a.Code == api.OK && !quiet) == same(d.m, was) {
			t.Errorf("P22.2: %d: %+v: %v makes %s", i, c.req, a, brief(d.m))
		}
	}
}

// TestTotals: what there is may be more than an account may have.
func TestTotals(t *testing.T) {
	d := &desk{t, model.New()}
	for i := range d.m.Accounts {
		d.m.Accounts[i].Free = amounts(amount(0, most), amount(2, most))
	}
	for i := range d.m.Lanes {
		d.m.Lanes[i] = api.Lane{Next: 3, Bids: []api.Order{{Id: 1, Account: 1, Price: 1000000, Left: 1000000}}, Owed: []api.Owed{owed(1, 0, most), owed(2, 1, most)}}
	}
	d.m.Lanes[0].Owed = nil
	d.m.Lanes[2].Asks, d.m.Lanes[2].Call = []api.Order{{Id: 2, Account: 1, Price: 1, Left: 6}}, true
	want := amounts(amount(0, 10*most+3000000000000), amount(2, 9*most), amount(3, most+6))
	if l := model.Total(d.m); !same(l, want) {
		t.Errorf("P22.3: %v, want %v", l, want)
	}
	d.total(d.m)
}
