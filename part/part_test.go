package part_test

import (
	"math"
	"slices"
	"testing"

	"rialto/api"
	"rialto/book"
	"rialto/part"
)

// edges are numbers beside which something turns.
var edges = []int{math.MinInt, -1, 0, 1, 2, 3, 4, 5, 6, 7, 8, 9, 99999, 100000, 100001, 999999, 1000000, 1000001, math.MaxInt}

// desk is a participant at which one thing happens behind the other; each is held against the plain one.
type desk struct {
	*testing.T
	p api.Part
}

func newDesk(t *testing.T, group int, keys ...api.Key) *desk {
	t.Helper()
	p, e := part.New(group, keys)
	if e != api.OK {
		t.Fatalf("P18.1: New(%d, %v): %d", group, keys, e)
	}
	return &desk{t, p}
}

// hand hands a message in: what is told at once, and marked.
func (d *desk) hand(m api.Message) ([]api.Message, []api.Mark) {
	d.Helper()
	call, plainly, promise := part.Prepare, plainPrepare, "P18.2"
	if m.Kind == api.MsgFinish {
		call, plainly, promise = part.Finish, plainFinish, "P18.3"
	}
	was := clone(d.p)
	p, told, marks, e := call(d.p, m)
	pp, pt, pm, pe := plainly(d.p, m)
	if !same(p, pp) || !same(told, pt) || !same(marks, pm) || e != pe {
		d.Fatalf("%s: %s: of %s: %s, %v, %v, %d, want %s, %v, %v, %d", promise, brief(m), brief(d.p), brief(p), told, marks, e, brief(pp), pt, pm, pe)
	}
	if !same(d.p, was) {
		d.Fatalf("R5: %s became %s", brief(was), brief(d.p))
	}
	if e == api.OK {
		d.p = p
	}
	if out := part.Out(d.p); !same(out, plainOut(d.p)) {
		d.Fatalf("P18.4: of %s: %s", brief(d.p), brief(out))
	}
	return told, marks
}

func (d *desk) prepare(txn api.Txn, key api.Key, r api.Request) ([]api.Message, []api.Mark) {
	d.Helper()
	return d.hand(api.Message{Kind: api.MsgPrepare, From: 1, To: d.p.Group, Txn: txn, Key: key, Req: r})
}

func (d *desk) finish(txn api.Txn, key api.Key, yes bool) ([]api.Message, []api.Mark) {
	d.Helper()
	return d.hand(api.Message{Kind: api.MsgFinish, From: 1, To: d.p.Group, Txn: txn, Key: key, Yes: yes})
}

// bring moves a cell in that is as it was handed in.
func (d *desk) bring(seq int, c api.Cell) {
	d.Helper()
	txn := name(6, seq)
	d.prepare(txn, c.Key, api.Request{Kind: api.ReqMove, Key: c.Key, To: d.p.Group})
	c.Version--
	d.hand(api.Message{Kind: api.MsgFinish, From: 1, To: d.p.Group, Txn: txn, Key: c.Key, Yes: true, Cells: []api.Cell{c}})
}

func (d *desk) cell(key api.Key) (api.Cell, bool) {
	for _, c := range d.p.Cells {
		if c.Key == key {
			return c, true
		}
	}
	return api.Cell{}, false
}

func ack(group, to int, txn api.Txn, key api.Key, a api.Answer) api.Message {
	return api.Message{Kind: api.MsgAck, From: group, To: to, Txn: txn, Key: key, Answer: a}
}

func no(group, to int, txn api.Txn, key api.Key, code api.Errno) api.Message {
	return api.Message{Kind: api.MsgVote, From: group, To: to, Txn: txn, Key: key, Answer: api.Answer{Code: code}}
}

func TestExample(t *testing.T) {
	d := newDesk(t, 0, account(1))
	put := api.Request{Kind: api.ReqDeposit, Account: 1, N: 5}
	if told, marks := d.prepare(name(1, 1), account(1), put); len(told) != 0 || len(marks) != 0 {
		t.Errorf("P18.2: %v, %v", told, marks)
	}
	vote := api.Message{Kind: api.MsgVote, To: 1, Txn: name(1, 1), Key: account(1), Yes: true}
	if out := part.Out(d.p); !same(out, []api.Message{vote}) {
		t.Errorf("P18.4: %v", out)
	}
	for range 3 {
		told, marks := d.finish(name(1, 1), account(1), true)
		if !same(told, []api.Message{ack(0, 1, name(1, 1), account(1), api.Answer{})}) || len(marks) != 0 {
			t.Errorf("P18.3: %v, %v", told, marks)
		}
		if c, _ := d.cell(account(1)); !same(c, api.Cell{Key: account(1), Account: api.Account{Free: amounts(amount(0, 5)), Count: 1}}) {
			t.Errorf("P18.3: %v", c)
		}
		if told, marks := d.prepare(name(1, 1), account(1), put); len(told) != 0 || len(marks) != 0 || len(d.p.Pends) != 0 {
			t.Errorf("P18.2: %v, %v, %v", told, marks, d.p)
		}
	}
}

func TestNew(t *testing.T) {
	all := []api.Key{account(1), account(2), account(3), account(4), account(5), account(6), account(7), account(8), lane(1), lane(2), lane(3)}
	lists := [][]api.Key{nil, {}, all, all[3:9], {account(1), lane(1)}, {account(8), lane(3)},
		{lane(1), account(1)}, {account(2), account(1)}, {account(1), account(1)}, {lane(3), lane(3)}, {lane(2), lane(1)},
		{{}}, {account(1), {}}, {account(1), account(2), account(9)}, {lane(1), lane(4)}, {{Kind: 3, N: 1}}, {{Kind: 0, N: 1}}, {account(1), {Kind: 3, N: 1}}}
	for _, n := range edges {
		lists = append(lists, []api.Key{account(n)}, []api.Key{lane(n)}, []api.Key{{Kind: n, N: 1}}, []api.Key{account(1), account(n)}, []api.Key{account(8), lane(n)})
	}
	for _, keys := range lists {
		for _, group := range edges {
			was := slices.Clone(keys)
			p, e := part.New(group, keys)
			if pp, pe := plainNew(group, keys); !same(p, pp) || e != pe || !slices.Equal(keys, was) {
				t.Fatalf("P18.1: New(%d, %v): %v, %d, want %v, %d", group, was, p, e, pp, pe)
			}
		}
	}
	p, e := part.New(3, []api.Key{account(8), lane(2)})
	if want := []api.Cell{{Key: account(8)}, {Key: lane(2), Lane: book.New()}}; e != api.OK || !same(p, api.Part{Group: 3, Cells: want}) {
		t.Errorf("P18.1: %v, %d", p, e)
	}
	if p, e := part.New(4, all); e != api.ErrArg || !same(p, api.Part{}) {
		t.Errorf("P18.1: %v, %d", p, e)
	}
}

// holdForm hands a message to both calls: what is not as it must be is refused, and all else that is answered is zero.
func holdForm(t *testing.T, p api.Part, m api.Message) {
	t.Helper()
	for i, call := range []func(api.Part, api.Message) (api.Part, []api.Message, []api.Mark, api.Errno){part.Prepare, part.Finish} {
		plainly := []func(api.Part, api.Message) (api.Part, []api.Message, []api.Mark, api.Errno){plainPrepare, plainFinish}[i]
		q, told, marks, e := call(p, m)
		pq, pt, pm, pe := plainly(p, m)
		if e != pe || !same(q, pq) || !same(told, pt) || !same(marks, pm) {
			t.Fatalf("P18.%d: %s: %s, %v, %v, %d, want %s, %v, %v, %d", 2+i, brief(m), brief(q), told, marks, e, brief(pq), pt, pm, pe)
		}
		if e != api.OK && (e != api.ErrPartForm || !same(q, api.Part{}) || len(told)+len(marks) != 0) {
			t.Fatalf("P18.%d: %s: %s, %v, %v, %d", 2+i, brief(m), brief(q), told, marks, e)
		}
	}
}

// TestForms brings each field of messages to every edge.
func TestForms(t *testing.T) {
	d := newDesk(t, 2, account(1), account(2), lane(1))
	d.prepare(name(2, 2), account(1), api.Request{Kind: api.ReqRead, Account: 1})
	cells := []api.Cell{{Key: account(1), Version: 5}}
	for _, m := range []api.Message{
		{Kind: api.MsgPrepare, To: 2, Txn: name(1, 1), Key: account(1), Req: api.Request{Kind: api.ReqDeposit, Account: 1, N: 1}},
		{Kind: api.MsgPrepare, To: 2, Txn: name(1, 1), Key: lane(1), Req: api.Request{Kind: api.ReqNet, Account: 2}},
		{Kind: api.MsgPrepare, To: 2, Txn: name(1, 1), Key: account(2), Req: api.Request{Kind: api.ReqMove, Key: account(2), To: 1}},
		{Kind: api.MsgFinish, To: 2, Txn: name(2, 2), Key: account(1), Yes: true},
		{Kind: api.MsgFinish, To: 2, Txn: name(2, 2), Key: account(1), Cells: cells},
		{Kind: api.MsgFinish, To: 2, Txn: name(3, 2), Key: account(1), Cells: cells},
	} {
		if _, _, _, e := map[int]func(api.Part, api.Message) (api.Part, []api.Message, []api.Mark, api.Errno){api.MsgPrepare: part.Prepare, api.MsgFinish: part.Finish}[m.Kind](d.p, m); e != api.OK {
			t.Errorf("P18.2, P18.3: %v: %d", m, e)
		}
		holdForm(t, d.p, m)
		for field := range 18 {
			for _, n := range edges {
				x := m
				r := &x.Req
				*[]*int{&x.Kind, &x.From, &x.To, &x.Txn.Client, &x.Txn.Seq, &x.Key.Kind, &x.Key.N,
					&r.Kind, &r.Account, &r.Lane, &r.Asset, &r.Side, &r.Price, &r.N, &r.Key.Kind, &r.Key.N, &r.To, &x.Answer.Num}[field] = n
				holdForm(t, d.p, x)
				x.Req.Now = !x.Req.Now
				holdForm(t, d.p, x)
			}
		}
	}
	// a key must be one of the request's own
	for _, key := range []api.Key{account(1), account(2), lane(1), lane(2), lane(3)} {
		for kind := range 11 {
			for _, r := range []api.Request{{Kind: kind, Account: 1}, {Kind: kind, Lane: 1}, {Kind: kind, Account: 1, N: 1}, {Kind: kind, Account: 1, Lane: 1, N: 1}, {Kind: kind, Key: lane(1)}, {Kind: kind, Account: 2, Lane: 1, Side: 1, Price: 1, N: 1}} {
				holdForm(t, d.p, api.Message{Kind: api.MsgPrepare, To: 2, Txn: name(1, 1), Key: key, Req: r})
			}
		}
	}
}

// TestCells: a cell that comes must be one that may be, of the message's key, whether it is needed or not.
func TestCells(t *testing.T) {
	d := newDesk(t, 1, account(2))
	d.prepare(name(1, 1), account(1), api.Request{Kind: api.ReqMove, Key: account(1), To: 1})
	d.prepare(name(1, 2), lane(2), api.Request{Kind: api.ReqMove, Key: lane(2), To: 1})
	order := api.Order{Id: 1, Account: 1, Price: 5, Left: 2}
	cells := []api.Cell{
		{Key: account(1)}, {Key: account(1), Version: 1000000}, {Key: account(1), Version: 1000001}, {Key: account(1), Version: -1},
		{Key: account(2)}, {Key: account(9)}, {},
		{Key: account(1), Account: api.Account{Free: amounts(amount(0, 1), amount(3, 1<<53)), Count: 1000000000}},
		{Key: account(1), Account: api.Account{Count: 1000000001}},
		{Key: account(1), Account: api.Account{Count: -1}},
		{Key: account(1), Account: api.Account{Free: amounts(amount(0, 0))}},
		{Key: account(1), Account: api.Account{Free: amounts(amount(4, 1))}},
		{Key: account(1), Account: api.Account{Free: amounts(amount(1, 1), amount(1, 1))}},
		{Key: account(1), Lane: api.Lane{Call: true}},
		{Key: account(1), Lane: api.Lane{Next: 1}},
		{Key: account(1), Lane: api.Lane{Bids: []api.Order{order}}},
		{Key: account(1), Lane: api.Lane{Asks: []api.Order{order}}},
		{Key: account(1), Lane: api.Lane{Owed: []api.Owed{{Account: 1, N: 1}}}},
		{Key: account(1), Lane: api.Lane{Bids: []api.Order{}, Asks: []api.Order{}, Owed: []api.Owed{}}},
		{Key: lane(2)}, {Key: lane(1), Lane: book.New()}, {Key: lane(2), Lane: book.New()},
		{Key: lane(2), Lane: api.Lane{Next: 2, Bids: []api.Order{order}}, Version: 1000000},
		{Key: lane(2), Lane: api.Lane{Next: 1, Bids: []api.Order{order}}},
		{Key: lane(2), Lane: api.Lane{Next: 2, Bids: []api.Order{order}}, Version: 1000001},
		{Key: lane(2), Lane: book.New(), Account: api.Account{Count: 1}},
		{Key: lane(2), Lane: book.New(), Account: api.Account{Free: amounts(amount(0, 1))}},
		{Key: lane(2), Lane: book.New(), Account: api.Account{Free: amounts()}},
		{Key: lane(4), Lane: book.New()}, {Key: api.Key{Kind: 3, N: 2}, Lane: book.New()},
	}
	lists := [][]api.Cell{nil, {}}
	for _, c := range cells {
		lists = append(lists, []api.Cell{c}, []api.Cell{c, c}, []api.Cell{c, {Key: account(1)}})
	}
	times := map[api.Errno]int{}
	for _, l := range lists {
		for _, key := range []api.Key{account(1), lane(2), account(2), account(9), {Kind: 3, N: 2}} {
			for _, yes := range []bool{false, true} {
				for seq := 1; seq <= 2; seq++ {
					m := api.Message{Kind: api.MsgFinish, From: 3, To: 1, Txn: name(1, seq), Key: key, Yes: yes, Cells: l}
					holdForm(t, d.p, m)
					_, _, _, e := part.Finish(d.p, m)
					times[e]++
				}
			}
		}
	}
	if times[api.OK] < 30 || times[api.ErrPartForm] < 300 {
		t.Errorf("too few of them tell something: %v", times)
	}
}

// TestMoved: where a key has no cell, it is told at once, but of one that is moved here.
func TestMoved(t *testing.T) {
	d := newDesk(t, 2, account(1))
	for i, r := range []api.Request{
		{Kind: api.ReqDeposit, Account: 2, N: 1}, {Kind: api.ReqWithdraw, Account: 2, N: 1}, {Kind: api.ReqRead, Account: 2}, {Kind: api.ReqNet, Account: 2},
		{Kind: api.ReqOrder, Account: 2, Lane: 1, Side: 1, Price: 1, N: 1}, {Kind: api.ReqMove, Key: account(2), To: 0}, {Kind: api.ReqMove, Key: account(2), To: 3},
	} {
		was := clone(d.p)
		for range 2 {
			told, marks := d.prepare(name(1, 1+i), account(2), r)
			if !same(told, []api.Message{no(2, 1, name(1, 1+i), account(2), api.ErrMoved)}) || len(marks) != 0 || !same(d.p, was) {
				t.Errorf("P18.2: %v: %v, %v", r, told, marks)
			}
		}
	}
	if told, _ := d.prepare(name(1, 3), lane(1), api.Request{Kind: api.ReqCall, Lane: 1}); !same(told, []api.Message{no(2, 1, name(1, 3), lane(1), api.ErrMoved)}) {
		t.Errorf("P18.2: %v", told)
	}
	told, marks := d.prepare(name(1, 4), account(2), api.Request{Kind: api.ReqMove, Key: account(2), To: 2})
	if len(told)+len(marks) != 0 || len(d.p.Pends) != 1 || !d.p.Pends[0].Yes || len(d.p.Pends[0].Cells) != 0 {
		t.Errorf("P18.2: %v, %v, %v", told, marks, d.p)
	}
	// the lock alone makes no cell
	if told, _ := d.prepare(name(2, 4), account(2), api.Request{Kind: api.ReqRead, Account: 2}); !same(told, []api.Message{no(2, 1, name(2, 4), account(2), api.ErrMoved)}) {
		t.Errorf("P18.2: %v", told)
	}
}

// TestHomes: votes go to where a pend came from first, what is told at once to where the message came from.
func TestHomes(t *testing.T) {
	d := newDesk(t, 0, account(1))
	read := api.Request{Kind: api.ReqRead, Account: 1}
	m := api.Message{Kind: api.MsgPrepare, From: 3, Txn: name(2, 1), Key: account(1), Req: read}
	d.hand(m)
	m.From = 2
	if told, _ := d.hand(m); len(told) != 0 {
		t.Errorf("P18.2: %v", told)
	}
	m.Txn = name(1, 1)
	d.hand(m)
	want := []api.Message{
		{Kind: api.MsgVote, To: 3, Txn: name(2, 1), Key: account(1), Yes: true},
		{Kind: api.MsgWound, To: 3, Txn: name(2, 1)},
	}
	if out := part.Out(d.p); !same(out, want) {
		t.Errorf("P18.4: %v", out)
	}
	for from := range 4 {
		f := api.Message{Kind: api.MsgFinish, From: from, Txn: name(2, 1), Key: account(1), Yes: true}
		if told, _ := d.hand(f); !same(told, []api.Message{ack(0, from, name(2, 1), account(1), api.Answer{})}) {
			t.Errorf("P18.3: %v", told)
		}
	}
	if out := part.Out(d.p); !same(out, []api.Message{{Kind: api.MsgVote, To: 2, Txn: name(1, 1), Key: account(1), Yes: true}}) {
		t.Errorf("P18.4: %v", out)
	}
}

// TestLine: of those that wait the oldest one comes next, and is judged by what it finds then; a fifth one is told that it is busy.
func TestLine(t *testing.T) {
	d := newDesk(t, 0, account(1))
	take := api.Request{Kind: api.ReqWithdraw, Account: 1, N: 5}
	d.prepare(name(1, 9), account(1), api.Request{Kind: api.ReqDeposit, Account: 1, N: 9})
	for _, txn := range []api.Txn{name(3, 8), name(2, 8), name(5, 9), name(4, 7)} {
		if told, marks := d.prepare(txn, account(1), take); len(told)+len(marks) != 0 {
			t.Errorf("P18.2: %v, %v", told, marks)
		}
	}
	was := clone(d.p)
	for range 2 {
		told, _ := d.prepare(name(6, 1), account(1), take)
		if !same(told, []api.Message{no(0, 1, name(6, 1), account(1), api.ErrBusy)}) || !same(d.p, was) {
			t.Errorf("P18.2: %v", told)
		}
	}
	if out := part.Out(d.p); len(out) != 2 || out[0].Kind != api.MsgVote || out[1].Kind != api.MsgWound || out[1].Txn != name(1, 9) {
		t.Errorf("P18.4: %v", out)
	}
	// one that waits has no Yes
	if told, _ := d.finish(name(2, 8), account(1), true); len(told) != 0 || !same(d.p, was) {
		t.Errorf("P18.3: %v", told)
	}
	if told, marks := d.finish(name(1, 9), account(1), true); len(told) != 1 || len(marks) != 0 {
		t.Errorf("P18.3: %v, %v", told, marks)
	}
	if _, marks := d.finish(name(4, 7), account(1), true); !same(marks, []api.Mark{{Txn: name(2, 8)}}) {
		t.Errorf("P18.3: 4 are left, and 5 are too much: %v", marks)
	}
	vote := no(0, 1, name(2, 8), account(1), api.ErrRejected)
	if out := part.Out(d.p); !same(out, []api.Message{vote}) {
		t.Errorf("P18.4: %v", out)
	}
	// one that waits goes out of the line
	if told, marks := d.finish(name(3, 8), account(1), false); len(told) != 1 || len(marks) != 0 || len(d.p.Locks.Wait) != 1 {
		t.Errorf("P18.3: %v, %v, %v", told, marks, d.p)
	}
	if told, marks := d.finish(name(2, 8), account(1), true); len(told)+len(marks) != 0 {
		t.Errorf("P18.3: %v, %v", told, marks)
	}
	if _, marks := d.finish(name(2, 8), account(1), false); !same(marks, []api.Mark{{Txn: name(5, 9)}}) {
		t.Errorf("P18.3: %v", marks)
	}
	d.finish(name(5, 9), account(1), false)
	if c, _ := d.cell(account(1)); len(d.p.Pends)+len(d.p.Locks.Held)+len(d.p.Locks.Wait) != 0 || !same(c.Account, api.Account{Free: amounts(amount(0, 4)), Count: 2}) {
		t.Errorf("P18.3: %v", d.p)
	}
}

// TestGone: whoever waits behind a move is told that the key has moved when its turn comes, without a mark; one that moves it here may go on.
func TestGone(t *testing.T) {
	d := newDesk(t, 1, account(1))
	d.prepare(name(1, 1), account(1), api.Request{Kind: api.ReqMove, Key: account(1), To: 0})
	d.prepare(name(2, 2), account(1), api.Request{Kind: api.ReqRead, Account: 1})
	d.prepare(name(3, 3), account(1), api.Request{Kind: api.ReqMove, Key: account(1), To: 1})
	d.prepare(name(4, 4), account(1), api.Request{Kind: api.ReqMove, Key: account(1), To: 2})
	cell := d.p.Cells[0]
	if told, marks := d.finish(name(1, 1), account(1), true); len(told) != 1 || len(marks) != 0 || len(d.p.Cells) != 0 {
		t.Fatalf("P18.3: %v, %v, %v", told, marks, d.p)
	}
	if out := part.Out(d.p); !same(out, []api.Message{no(1, 1, name(2, 2), account(1), api.ErrMoved)}) {
		t.Errorf("P18.4: %v", out)
	}
	d.finish(name(2, 2), account(1), false)
	if out := part.Out(d.p); !same(out, []api.Message{{Kind: api.MsgVote, From: 1, To: 1, Txn: name(3, 3), Key: account(1), Yes: true}}) {
		t.Errorf("P18.4: %v", out)
	}
	cell.Version = 4
	d.hand(api.Message{Kind: api.MsgFinish, From: 2, To: 1, Txn: name(3, 3), Key: account(1), Yes: true, Cells: []api.Cell{cell}})
	cell.Version = 5
	if !same(d.p.Cells, []api.Cell{cell}) || !d.p.Pends[0].Yes || !same(d.p.Pends[0].Cells, []api.Cell{cell}) {
		t.Errorf("P18.3: %v", d.p)
	}
}

// TestLate: what ended at a key is kept: later messages of it, and of earlier ones, are nothing.
func TestLate(t *testing.T) {
	d := newDesk(t, 0, account(1), account(2))
	read := api.Request{Kind: api.ReqRead, Account: 1}
	// a decision against it comes ahead of the question
	if told, _ := d.finish(name(1, 5), account(1), false); !same(told, []api.Message{ack(0, 1, name(1, 5), account(1), api.Answer{})}) {
		t.Errorf("P18.3: %v", told)
	}
	was := clone(d.p)
	for seq := 1; seq <= 5; seq++ {
		if told, marks := d.prepare(name(1, seq), account(1), read); len(told)+len(marks) != 0 || !same(d.p, was) {
			t.Errorf("P18.2: %d: %v, %v", seq, told, marks)
		}
	}
	for _, yes := range []bool{false, true} {
		if told, marks := d.finish(name(1, 4), account(1), yes); len(told)+len(marks) != 0 || !same(d.p, was) {
			t.Errorf("P18.3: %v, %v", told, marks)
		}
		if told, marks := d.finish(name(1, 5), account(1), yes); len(told) != 1 || len(marks) != 0 || !same(d.p, was) {
			t.Errorf("P18.3: %v, %v", told, marks)
		}
	}
	if told, marks := d.finish(name(1, 6), account(1), true); len(told)+len(marks) != 0 || !same(d.p, was) {
		t.Errorf("P18.3: a Yes without a pend: %v, %v", told, marks)
	}
	// of another client, another key or a later number nothing is known
	for _, txn := range []api.Txn{name(2, 1), name(1, 6)} {
		d.prepare(txn, account(1), read)
	}
	d.prepare(name(1, 1), account(2), api.Request{Kind: api.ReqRead, Account: 2})
	if len(d.p.Pends) != 3 {
		t.Errorf("P18.2: %v", d.p.Pends)
	}
	// a later end takes the place of an earlier one, also where the key has gone
	d.finish(name(1, 1), account(2), true)
	d.prepare(name(2, 2), account(2), api.Request{Kind: api.ReqMove, Key: account(2), To: 1})
	d.finish(name(2, 2), account(2), true)
	d.finish(name(1, 2), account(2), false)
	want := []api.Done{{Key: account(1), Client: 1, Seq: 5}, {Key: account(2), Client: 1, Seq: 2}, {Key: account(2), Client: 2, Seq: 2}}
	if len(d.p.Done) != len(want) {
		t.Errorf("P18.3: %v", d.p.Done)
	}
	for _, row := range want {
		if !slices.ContainsFunc(d.p.Done, func(x api.Done) bool { return same(x, row) }) {
			t.Errorf("P18.3: %v in %v", row, d.p.Done)
		}
	}
}
