package part_test

import (
	"math/rand"
	"slices"
	"testing"

	"rialto/api"
	"rialto/book"
	"rialto/part"
	"rialto/session"
)

func allKeys() []api.Key {
	var l []api.Key
	for n := 1; n <= 8; n++ {
		l = append(l, account(n))
	}
	for n := 1; n <= 3; n++ {
		l = append(l, lane(n))
	}
	return l
}

// someRequest fits; accounts and lanes are few, so that requests meet.
func someRequest(r *rand.Rand) api.Request {
	a, l := 1+r.Intn(3), 1+r.Intn(2)
	switch kind := 1 + r.Intn(9); kind {
	case api.ReqDeposit, api.ReqWithdraw:
		return api.Request{Kind: kind, Account: a, Asset: r.Intn(4), N: 1 + r.Intn(40)}
	case api.ReqOrder:
		return api.Request{Kind: kind, Account: a, Lane: l, Side: 1 + r.Intn(2), Price: 1 + r.Intn(5), N: 1 + r.Intn(5), Now: r.Intn(5) == 0}
	case api.ReqCancel:
		return api.Request{Kind: kind, Account: a, Lane: l, N: 1 + r.Intn(9)}
	case api.ReqCall, api.ReqUncross:
		return api.Request{Kind: kind, Lane: l}
	case api.ReqNet, api.ReqRead:
		return api.Request{Kind: kind, Account: a}
	}
	key := account(a)
	if r.Intn(2) == 0 {
		key = lane(l)
	}
	return api.Request{Kind: api.ReqMove, Key: key, To: r.Intn(3)}
}

func someCell(r *rand.Rand, key api.Key) api.Cell {
	c := api.Cell{Key: key, Version: r.Intn(3)}
	if key.Kind == api.KeyAccount {
		c.Account.Count = []int{0, 5, 999999900, 999999901, counts}[r.Intn(5)]
		for asset := range 4 {
			if n := []int{0, 0, 9, 100, half, half + 1, most - 20, most}[r.Intn(8)]; n > 0 {
				c.Account.Free = append(c.Account.Free, amount(asset, n))
			}
		}
		return c
	}
	c.Lane = book.New()
	for range r.Intn(60) {
		if l, _, _, e := book.Place(c.Lane, 1+r.Intn(3), 1+r.Intn(2), 1+r.Intn(9), 1+r.Intn(9), false); e == api.OK {
			c.Lane = l
		}
	}
	if r.Intn(4) == 0 {
		c.Lane.Owed = []api.Owed{owed(1, 0, eighth), owed(1, 1, eighth+1), owed(2, 0, most), owed(3, 1, eighth)}
	}
	c.Lane.Call = r.Intn(3) == 0
	return c
}

// someMessage is of one of few transactions; one of them asks the same wherever it is asked.
func someMessage(r *rand.Rand, p api.Part, asked map[api.Txn]api.Request) api.Message {
	m := api.Message{Kind: api.MsgPrepare, From: r.Intn(3), To: p.Group, Txn: name(1+r.Intn(6), 1+r.Intn(20))}
	if r.Intn(2) == 0 && len(p.Pends) > 0 {
		m.Kind = api.MsgFinish
		x := p.Pends[r.Intn(len(p.Pends))]
		m.Txn, m.Key, m.Yes = x.Txn, x.Key, r.Intn(4) > 0
		if r.Intn(2) == 0 {
			m.Answer.Amounts = amounts(amount(r.Intn(5), r.Intn(50)), amount(r.Intn(4), 1))
		}
		if r.Intn(3) > 0 {
			m.Cells = []api.Cell{someCell(r, m.Key)}
		}
		return m
	}
	if _, ok := asked[m.Txn]; !ok {
		asked[m.Txn] = someRequest(r)
	}
	m.Req = asked[m.Txn]
	keys := session.Keys(m.Req)
	m.Key = keys[r.Intn(len(keys))]
	if r.Intn(12) == 0 {
		m.Kind, m.Yes = api.MsgFinish, r.Intn(2) == 0
	}
	return m
}

type ended struct {
	txn api.Txn
	key api.Key
}

// TestRuns hands messages in at random: what comes again changes nothing, and what is told at once is told again; what ended at a key is never judged there again.
func TestRuns(t *testing.T) {
	times := map[string]int{}
	for seed := range int64(150) {
		r := rand.New(rand.NewSource(seed))
		d := newDesk(t, r.Intn(3), allKeys()[:8+r.Intn(4)]...)
		asked := map[api.Txn]api.Request{}
		over := map[ended]bool{}
		for range 150 {
			m := someMessage(r, d.p, asked)
			was := len(d.p.Pends)
			told, marks := d.hand(m)
			for _, x := range d.p.Pends {
				if over[ended{x.Txn, x.Key}] {
					t.Fatalf("P18.5: %v ended at %v: %s", x.Txn, x.Key, brief(d.p))
				}
				if x.Voted {
					times["vote "+string(rune('0'+int(x.Code)))]++
				}
			}
			next := clone(d.p)
			again, none := d.hand(m)
			if !same(d.p, next) || !same(again, told) || len(none) != 0 {
				t.Fatalf("P18.5: %s came again: %s, %v, %v", brief(m), brief(d.p), again, none)
			}
			if len(told) > 0 && told[0].Kind == api.MsgAck {
				over[ended{m.Txn, m.Key}] = true
				times["ack"]++
				times["left"] += was - len(d.p.Pends)
			} else if len(told) > 0 {
				times["at once "+string(rune('0'+int(told[0].Answer.Code)))]++
			}
			times["mark"] += len(marks)
			holdLocks(t, d.p)
		}
	}
	for _, what := range []string{"vote 0", "vote 5", "vote 6", "at once 3", "at once 5", "ack", "left", "mark"} {
		if times[what] < 200 {
			t.Errorf("too few of them tell something: %v", times)
		}
	}
}

// holdLocks: each pend holds its key or waits for it, and nobody else does; just those that hold it have voted.
func holdLocks(t *testing.T, p api.Part) {
	t.Helper()
	if len(p.Pends) != len(p.Locks.Held)+len(p.Locks.Wait) {
		t.Fatalf("P18.2, P18.3: %s", brief(p))
	}
	for _, x := range p.Pends {
		if h := (api.Hold{Key: x.Key, Txn: x.Txn}); slices.Contains(p.Locks.Held, h) != x.Voted || slices.Contains(p.Locks.Wait, h) == x.Voted {
			t.Fatalf("P18.2, P18.3: %v in %s", x, brief(p))
		}
	}
}

// hall is three groups, among which keys are moved; where they are is known.
type hall struct {
	*testing.T
	desks []*desk
	at    map[api.Key]int
	seq   int
	put   [4]int // in, less what was taken out
}

func newHall(t *testing.T) *hall {
	h := &hall{T: t, at: map[api.Key]int{}}
	for group := range 3 {
		var own []api.Key
		for _, k := range allKeys() {
			if k.N%3 == group {
				own = append(own, k)
				h.at[k] = group
			}
		}
		h.desks = append(h.desks, newDesk(t, group, own...))
	}
	return h
}

// ask asks at all keys of a request, decides, and tells the decision.
func (h *hall) ask(r api.Request) bool {
	h.Helper()
	h.seq++
	txn := name(1+h.seq%6, 1+h.seq/6)
	var keys []api.Key
	var groups []int
	for _, k := range session.Keys(r) {
		keys, groups = append(keys, k), append(groups, h.at[k])
	}
	if r.Kind == api.ReqMove && r.To != h.at[r.Key] {
		keys, groups = append(keys, r.Key), append(groups, r.To)
	}
	f := api.Message{Kind: api.MsgFinish, From: 1, Txn: txn, Yes: r.Kind != api.ReqMove || len(keys) == 2}
	for i, k := range keys {
		d := h.desks[groups[i]]
		d.prepare(txn, k, r)
		vote := part.Out(d.p)[len(d.p.Pends)-1]
		f.Yes = f.Yes && vote.Yes
		f.Answer.Amounts = append(f.Answer.Amounts, vote.Answer.Amounts...)
		f.Cells = append(f.Cells, vote.Cells...)
	}
	for i, k := range keys {
		f.Key, f.To = k, groups[i]
		told, _ := h.desks[groups[i]].hand(f)
		if len(told) != 1 || told[0].Kind != api.MsgAck {
			h.Fatalf("P18.3: %v: %v", r, told)
		}
	}
	for _, d := range h.desks {
		if len(d.p.Pends)+len(d.p.Locks.Held)+len(d.p.Locks.Wait) != 0 {
			h.Fatalf("P18.3: %v: %s", r, brief(d.p))
		}
	}
	if !f.Yes {
		return false
	}
	switch r.Kind {
	case api.ReqDeposit:
		h.put[r.Asset] += r.N
	case api.ReqWithdraw:
		h.put[r.Asset] -= r.N
	case api.ReqMove:
		h.at[r.Key] = r.To
	}
	return true
}

// hold: each key has one cell in all groups, where it is known to be; what all of them have is what was put in.
func (h *hall) hold() {
	h.Helper()
	var sum [4]int
	cells := 0
	for group, d := range h.desks {
		for _, c := range d.p.Cells {
			cells++
			if h.at[c.Key] != group {
				h.Fatalf("P18.3: %v is in %d", c, group)
			}
			for _, a := range c.Account.Free {
				sum[a.Asset] += a.N
			}
			if c.Key.Kind == api.KeyLane {
				money, goods, e := book.Holds(c.Lane)
				if e != api.OK {
					h.Fatalf("P18.3: %v may not be", c)
				}
				sum[0] += money
				sum[c.Key.N] += goods
			}
		}
	}
	if cells != 11 || sum != h.put {
		h.Fatalf("P18.3: %d cells have %v of %v", cells, sum, h.put)
	}
}

// TestWhole does requests one by one, over three groups: nothing is lost, and nothing comes of nothing.
func TestWhole(t *testing.T) {
	done := map[int]int{}
	for seed := range int64(20) {
		r := rand.New(rand.NewSource(seed))
		h := newHall(t)
		for a := 1; a <= 3; a++ {
			for asset := range 4 {
				h.ask(api.Request{Kind: api.ReqDeposit, Account: a, Asset: asset, N: 500})
			}
		}
		for range 250 {
			q := someRequest(r)
			if h.ask(q) {
				done[q.Kind]++
			}
			h.hold()
		}
	}
	for kind := api.ReqDeposit; kind <= api.ReqMove; kind++ {
		if done[kind] < 30 {
			t.Errorf("too few of them were done: %v", done)
		}
	}
}

// spoil fills a list and its spare room.
func spoil[T any](l []T, with T) {
	for i := range l[:cap(l)] {
		l[:cap(l)][i] = with
	}
}

func spoilAnswer(a api.Answer) {
	spoil(a.Amounts, amount(-7, -7))
	spoil(a.Fills, api.Fill{Buyer: -7})
}

func spoilCells(l []api.Cell) {
	for _, c := range l {
		spoil(c.Account.Free, amount(-7, -7))
		spoil(c.Lane.Bids, api.Order{Id: -7})
		spoil(c.Lane.Asks, api.Order{Id: -7})
		spoil(c.Lane.Owed, owed(-7, -7, -7))
	}
	spoil(l, api.Cell{Version: -7})
}

func spoilMessages(l []api.Message) {
	for _, m := range l {
		spoilAnswer(m.Answer)
		spoilCells(m.Cells)
	}
	spoil(l, api.Message{Kind: -7})
}

func spoilPends(l []api.Pend) {
	for _, x := range l {
		spoil(x.Amounts, amount(-7, -7))
		spoilCells(x.Cells)
	}
	spoil(l, api.Pend{Home: -7})
}

func spoilDone(l []api.Done) {
	for _, d := range l {
		spoilAnswer(d.Answer)
	}
	spoil(l, api.Done{Seq: -7})
}

// answer is what a call answered, in parts that share nothing.
type answer struct {
	p     api.Part
	told  []api.Message
	marks []api.Mark
}

// parts spoil one list of an answer each.
func (a answer) parts() []func() {
	return []func(){
		func() { spoilCells(a.p.Cells) },
		func() { spoil(a.p.Locks.Held, api.Hold{Key: lane(-7)}) },
		func() { spoil(a.p.Locks.Wait, api.Hold{Key: lane(-7)}) },
		func() { spoilPends(a.p.Pends) },
		func() { spoilDone(a.p.Done) },
		func() { spoilMessages(a.told) },
		func() { spoil(a.marks, api.Mark{Commit: true}) },
	}
}

func (a answer) lists() []any {
	return []any{a.p.Cells, a.p.Locks.Held, a.p.Locks.Wait, a.p.Pends, a.p.Done, a.told, a.marks}
}

// TestMemory: what is answered shares nothing with what was handed in, and its lists share nothing.
func TestMemory(t *testing.T) {
	for seed := range int64(25) {
		r := rand.New(rand.NewSource(seed))
		d := newDesk(t, r.Intn(3), allKeys()...)
		asked := map[api.Txn]api.Request{}
		for range 120 {
			m := someMessage(r, d.p, asked)
			call := part.Prepare
			if m.Kind == api.MsgFinish {
				call = part.Finish
			}
			was, mine := clone(d.p), m
			mine.Cells, mine.Answer.Amounts = cloneCells(m.Cells), slices.Clone(m.Answer.Amounts)
			first := answer{}
			first.p, first.told, first.marks, _ = call(d.p, m)
			for i := range first.parts() {
				a := answer{}
				a.p, a.told, a.marks, _ = call(d.p, m)
				a.parts()[i]()
				for j, l := range a.lists() {
					if j != i && !same(l, first.lists()[j]) {
						t.Fatalf("R5: lists %d and %d of one answer share memory: %s", i, j, brief(m))
					}
				}
			}
			spoilMessages(part.Out(d.p))
			if !same(d.p, was) || !same(m, mine) {
				t.Fatalf("R5: of %s: %s became %s", brief(m), brief(was), brief(d.p))
			}
			d.p = clone(first.p)
			for _, spoils := range first.parts() {
				spoils()
			}
			spoilCells(m.Cells)
			spoilAnswer(m.Answer)
		}
	}
}

// TestKept: what was handed in is not kept, wherever it goes.
func TestKept(t *testing.T) {
	d := newDesk(t, 0, account(1))
	given := amounts(amount(0, 3), amount(1, 4))
	cells := []api.Cell{books(api.Lane{Next: 3, Bids: []api.Order{{Id: 1, Account: 4, Price: 9, Left: 3}}, Asks: []api.Order{{Id: 2, Account: 4, Price: 10, Left: 3}}, Owed: []api.Owed{owed(1, 1, 6)}})}
	d.prepare(name(1, 1), account(1), api.Request{Kind: api.ReqNet, Account: 1})
	d.hand(api.Message{Kind: api.MsgFinish, Txn: name(1, 1), Key: account(1), Yes: true, Answer: api.Answer{Amounts: given}})
	d.prepare(name(1, 2), lane(2), api.Request{Kind: api.ReqMove, Key: lane(2)})
	d.hand(api.Message{Kind: api.MsgFinish, Txn: name(1, 2), Key: lane(2), Yes: true, Cells: cells})
	was := clone(d.p)
	spoil(given, amount(-7, -7))
	spoilCells(cells)
	if !same(d.p, was) || len(d.p.Cells) != 2 || len(d.p.Done[0].Answer.Amounts) != 2 {
		t.Errorf("R5: %s became %s", brief(was), brief(d.p))
	}
	keys := allKeys()
	p, _ := part.New(0, keys)
	spoil(keys, lane(-7))
	if want, _ := part.New(0, allKeys()); !same(p, want) {
		t.Errorf("R5: %v", p)
	}
}
