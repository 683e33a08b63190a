package shard_test

import (
	"math"
	"slices"
	"testing"

	"rialto/api"
	"rialto/shard"
)

// desk is a group of which each call is held against the words.
type desk struct {
	*testing.T
	s api.Shard
}

func newDesk(t *testing.T, group, groups int) *desk {
	t.Helper()
	s, e := shard.New(group, groups)
	if e != api.OK {
		t.Fatalf("P21.1: %d of %d: %d", group, groups, e)
	}
	return &desk{t, s}
}

// hand applies a message.
func (d *desk) hand(m api.Message) ([]api.Message, []api.Mark) {
	d.Helper()
	was, sent := clone(d.s), clone(m)
	next, told, marks := shard.Apply(d.s, m)
	want, tells, places := plainApply(d.s, m)
	if !same(next, want) || !same(told, tells) || !same(marks, places) {
		d.Fatalf("P21.2: %s:\n%s,\n%s, %v, want\n%s,\n%s, %v", brief(m), brief(next), brief(told), marks, brief(want), brief(tells), places)
	}
	if !same(d.s, was) || !same(m, sent) {
		d.Fatalf("R5: %s is changed, or %s", brief(was), brief(sent))
	}
	holdApart(d.T, d.s, m, next, told, marks)
	d.s = next
	return told, marks
}

func (d *desk) out() []api.Message {
	d.Helper()
	was := clone(d.s)
	l, want := shard.Out(d.s), plainOut(d.s)
	if !same(l, want) || !same(d.s, was) {
		d.Fatalf("P21.3: %s, want %s", brief(l), brief(want))
	}
	holdApart(d.T, d.s, l)
	return l
}

// quiet hands a message in by which nothing happens.
func (d *desk) quiet(m api.Message) {
	d.Helper()
	was := clone(d.s)
	if told, marks := d.hand(m); !same(d.s, was) || len(told)+len(marks) != 0 {
		d.Errorf("P21.2: %s tells %s, %v, makes %s", brief(m), brief(told), marks, brief(d.s))
	}
}

func (d *desk) place(key api.Key) api.Place {
	at := slices.IndexFunc(d.s.Map, func(p api.Place) bool { return p.Key == key })
	if at < 0 {
		return api.Place{}
	}
	return d.s.Map[at]
}

func asks(to int, t api.Txn, r api.Request) api.Message {
	return api.Message{Kind: api.MsgAsk, From: -1, To: to, Txn: t, Req: r}
}

func put(account, n int) api.Request {
	return api.Request{Kind: api.ReqDeposit, Account: account, N: n}
}

func move(key api.Key, to int) api.Request {
	return api.Request{Kind: api.ReqMove, Key: key, To: to}
}

func net(account int) api.Request { return api.Request{Kind: api.ReqNet, Account: account} }

func answers(from int, t api.Txn, a api.Answer) api.Message {
	return api.Message{Kind: api.MsgAnswer, From: from, To: -1, Txn: t, Answer: a}
}

func TestNew(t *testing.T) {
	for _, group := range []int{math.MinInt, -1, 0, 1, 2, 3, 4, 5, math.MaxInt} {
		for _, groups := range []int{math.MinInt, -1, 0, 1, 2, 3, 4, 5, math.MaxInt} {
			s, e := shard.New(group, groups)
			want, f := plainNew(group, groups)
			if e != f || !same(s, want) {
				t.Errorf("P21.1: %d of %d: %s, %d, want %s, %d", group, groups, brief(s), e, brief(want), f)
			}
			holdApart(t, s)
		}
	}
}

func TestExample(t *testing.T) {
	d := newDesk(t, 0, 1)
	x := name(1, 1)
	ask := asks(0, x, put(1, 5))
	if told, marks := d.hand(ask); len(told)+len(marks) != 0 {
		t.Errorf("P21.2: %v, %v", told, marks)
	}
	prepare := api.Message{Kind: api.MsgPrepare, Txn: x, Key: account(1), Req: put(1, 5)}
	if l := d.out(); !same(l, []api.Message{prepare}) {
		t.Fatalf("P21.3: %v", l)
	}
	d.hand(prepare)
	vote := api.Message{Kind: api.MsgVote, Txn: x, Key: account(1), Yes: true}
	if l := d.out(); !same(l, []api.Message{prepare, vote}) {
		t.Fatalf("P21.3: %v", l)
	}
	d.quiet(ask)
	if told, marks := d.hand(vote); len(told) != 0 || !same(marks, []api.Mark{{Txn: x, Commit: true}}) {
		t.Errorf("P21.2: %v, %v", told, marks)
	}
	finish := api.Message{Kind: api.MsgFinish, Txn: x, Key: account(1), Yes: true}
	if l := d.out(); !same(l, []api.Message{finish, vote}) {
		t.Fatalf("P21.3: %v", l)
	}
	told, _ := d.hand(finish)
	ack := api.Message{Kind: api.MsgAck, Txn: x, Key: account(1)}
	if !same(told, []api.Message{ack}) || !same(d.s.Part.Cells[0].Account, api.Account{Free: amounts(amount(0, 5)), Count: 1}) {
		t.Fatalf("P21.2: %v, %s", told, brief(d.s))
	}
	answer := []api.Message{answers(0, x, api.Answer{})}
	if told, marks := d.hand(ack); !same(told, answer) || len(marks) != 0 {
		t.Errorf("P21.2: %v, %v", told, marks)
	}
	for range 2 {
		if told, _ := d.hand(ask); !same(told, answer) {
			t.Errorf("P21.2: %v", told)
		}
	}
	for _, m := range []api.Message{prepare, vote, ack} { // all is over
		d.quiet(m)
	}
	if told, _ := d.hand(finish); !same(told, []api.Message{ack}) {
		t.Errorf("P21.2: %v", told)
	}
	if len(d.out()) != 0 {
		t.Errorf("P21.3: %v", d.out())
	}
}

// TestHomes: a client asks at its home alone, its requests one behind the other.
func TestHomes(t *testing.T) {
	for groups := 1; groups <= 4; groups++ {
		for group := range groups {
			for client := 1; client <= 6; client++ {
				d := newDesk(t, group, groups)
				d.quiet(asks(group, name(client, 2), put(1, 5)))
				d.hand(asks(group, name(client, 1), put(1, 5)))
				if home := client%groups == group; (len(d.s.Sessions) == 1) != home || (len(d.s.Coord.Trans) == 1) != home {
					t.Errorf("P21.2: client %d at %d of %d: %s", client, group, groups, brief(d.s))
				}
				d.quiet(asks(group, name(client, 2), put(1, 5)))
			}
		}
	}
}

// TestPeers: a transaction goes to where its keys are known to be.
func TestPeers(t *testing.T) {
	d := newDesk(t, 1, 3)
	peers := func(client int, r api.Request) []api.Peer {
		was := len(d.s.Coord.Trans)
		d.hand(asks(1, name(client, 1), r))
		return d.s.Coord.Trans[was].Peers
	}
	moved := api.Message{Kind: api.MsgVote, From: 2, To: 1, Txn: name(1, 9), Key: lane(2), Answer: api.Answer{Code: api.ErrMoved, Num: 4}, Req: move(lane(2), 0)}
	d.hand(moved)
	if !same(d.s.Map, []api.Place{place(lane(2), 0, 4)}) {
		t.Errorf("P21.2: %v", d.s.Map)
	}
	if l := peers(1, net(5)); !same(l, []api.Peer{{Key: account(5), Group: 2}, {Key: lane(1), Group: 1}, {Key: lane(2)}, {Key: lane(3)}}) {
		t.Errorf("P21.2: %v", l)
	}
	if l := peers(4, move(lane(2), 2)); !same(l, []api.Peer{{Key: lane(2)}, {Key: lane(2), Group: 2}}) {
		t.Errorf("P21.2: %v", l)
	}
}

// TestNoMove: a key is not moved to where it is, nor to a group that there is not; that is answered at once.
func TestNoMove(t *testing.T) {
	for groups := 1; groups <= 4; groups++ {
		d := newDesk(t, 0, groups)
		client, seq := groups, 0
		if groups == 1 {
			client = 5
		}
		refuse := func(r api.Request) {
			t.Helper()
			seq++
			x := name(client, seq)
			want := []api.Message{answers(0, x, api.Answer{Code: api.ErrRejected})}
			for range 2 {
				if told, marks := d.hand(asks(0, x, r)); !same(told, want) || len(marks) != 0 || len(d.s.Coord.Trans) != 0 {
					t.Errorf("P21.2: %d groups: %+v: %v, %v", groups, r, told, marks)
				}
			}
			if s := d.s.Sessions; !same(s, []api.Session{{Client: client, Seq: seq, Done: true, Answer: api.Answer{Code: api.ErrRejected}}}) {
				t.Errorf("P21.2: %d groups: %v", groups, s)
			}
		}
		for to := groups; to <= 3; to++ {
			refuse(move(account(7), to))
		}
		refuse(move(account(7), 7%groups))
		refuse(move(lane(3), 3%groups))
		if groups == 1 {
			continue
		}
		d.hand(api.Message{Kind: api.MsgVote, From: 1, Txn: name(6, 7), Key: account(7), Answer: api.Answer{Code: api.ErrMoved, Num: 1}, Req: move(account(7), (7+1)%groups)})
		refuse(move(account(7), (7+1)%groups))
		d.hand(asks(0, name(client, seq+1), move(account(7), 7%groups)))
		if len(d.s.Coord.Trans) != 1 {
			t.Errorf("P21.2: %d groups: %s", groups, brief(d.s))
		}
	}
}

// TestHints: a vote that a key has moved tells where it is, and is learned from, whatever comes of it.
func TestHints(t *testing.T) {
	d := newDesk(t, 1, 2)
	prepare := api.Message{Kind: api.MsgPrepare, From: 0, To: 1, Txn: name(2, 1), Key: account(2), Req: put(2, 5)}
	vote := api.Message{Kind: api.MsgVote, From: 1, To: 0, Txn: name(2, 1), Key: account(2), Answer: api.Answer{Code: api.ErrMoved}, Req: move(account(2), 0)}
	if told, marks := d.hand(prepare); !same(told, []api.Message{vote}) || len(marks) != 0 {
		t.Errorf("P21.2: %v, %v, want %v", told, marks, vote)
	}
	hint := func(key api.Key, to, version int) api.Message {
		return api.Message{Kind: api.MsgVote, From: 0, To: 1, Txn: name(3, 3), Key: key, Answer: api.Answer{Code: api.ErrMoved, Num: version}, Req: move(key, to)}
	}
	d.hand(hint(account(2), 3, 6)) // of no transaction of this group
	if d.place(account(2)) != place(account(2), 3, 6) {
		t.Errorf("P21.2: %v", d.s.Map)
	}
	vote.Answer.Num, vote.Req.To = 6, 3
	if told, _ := d.hand(prepare); !same(told, []api.Message{vote}) {
		t.Errorf("P21.2: %v, want %v", told, vote)
	}
	d.quiet(hint(account(2), 0, 6))
	d.quiet(hint(account(2), 0, 5))
	d.hand(hint(account(2), 0, 1000000))
	other := hint(lane(3), 2, 7) // it is the vote's Key that is learned
	other.Req.Key = account(5)
	d.hand(other)
	if !same(d.s.Map, []api.Place{place(account(2), 0, 1000000), place(lane(3), 2, 7)}) {
		t.Errorf("P21.2: %v", d.s.Map)
	}
	// neither another Code nor one without a Req tells anything
	for _, code := range []api.Errno{0, 3, 4, 6, 999} {
		m := hint(account(1), 0, 9)
		m.Answer.Code = code
		d.quiet(m)
	}
	m := hint(account(1), 0, 9)
	m.Req = api.Request{}
	d.quiet(m)
	// a vote with Yes is learned from, too, as nothing says that it is not
	m = hint(account(1), 0, 9)
	m.Yes = true
	d.hand(m)
	if d.place(account(1)) != place(account(1), 0, 9) {
		t.Errorf("P21.2: %v", d.s.Map)
	}
	// of a transaction of this group it is heard, too
	x := name(1, 1)
	d.hand(asks(1, x, put(4, 5)))
	m = hint(account(4), 1, 1)
	m.Txn = x
	d.hand(m)
	if d.place(account(4)) != place(account(4), 1, 1) || d.s.Coord.Trans[0].State != api.TransAborts || d.s.Coord.Trans[0].Answer.Code != api.ErrMoved {
		t.Errorf("P21.2: %s", brief(d.s))
	}
}

// TestWaits: one that waited while its key was moved away is told in Out that it has, and where.
func TestWaits(t *testing.T) {
	d := newDesk(t, 1, 3)
	key, x, y := account(4), name(1, 1), name(2, 1)
	d.hand(api.Message{Kind: api.MsgPrepare, From: 1, To: 1, Txn: x, Key: key, Req: move(key, 2)})
	d.hand(api.Message{Kind: api.MsgPrepare, From: 2, To: 1, Txn: y, Key: key, Req: put(4, 5)})
	told, marks := d.hand(api.Message{Kind: api.MsgFinish, From: 1, To: 1, Txn: x, Key: key, Yes: true})
	if !same(told, []api.Message{{Kind: api.MsgAck, From: 1, To: 1, Txn: x, Key: key}}) || len(marks) != 0 || d.place(key) != place(key, 2, 1) {
		t.Errorf("P21.2: %v, %v, %s", told, marks, brief(d.s))
	}
	want := api.Message{Kind: api.MsgVote, From: 1, To: 2, Txn: y, Key: key, Answer: api.Answer{Code: api.ErrMoved, Num: 1}, Req: move(key, 2)}
	if l := d.out(); !same(l, []api.Message{want}) {
		t.Errorf("P21.3: %v, want %v", l, want)
	}
}

// bring moves a cell in.
func (d *desk) bring(seq int, c api.Cell) {
	d.Helper()
	x := name(6, seq)
	d.hand(api.Message{Kind: api.MsgPrepare, From: 0, To: d.s.Group, Txn: x, Key: c.Key, Req: move(c.Key, d.s.Group)})
	d.hand(api.Message{Kind: api.MsgFinish, From: 0, To: d.s.Group, Txn: x, Key: c.Key, Yes: true, Cells: []api.Cell{c}})
}

// TestComes: a cell that comes is learned to be here; a Version that cannot be learned lets nothing happen.
func TestComes(t *testing.T) {
	for _, version := range []int{0, 5, 999999} {
		for _, c := range []api.Cell{wallet(version), shop(version)} {
			d := newDesk(t, 1, 3)
			d.bring(1, c)
			if d.place(c.Key) != place(c.Key, 1, version+1) || len(d.s.Part.Cells) != 5 {
				t.Errorf("P21.2: %s", brief(d.s))
			}
		}
	}
	d := newDesk(t, 1, 3)
	c := wallet(1000000)
	x := name(6, 1)
	d.hand(api.Message{Kind: api.MsgPrepare, From: 0, To: 1, Txn: x, Key: c.Key, Req: move(c.Key, 1)})
	d.quiet(api.Message{Kind: api.MsgFinish, From: 0, To: 1, Txn: x, Key: c.Key, Yes: true, Cells: []api.Cell{c}})
	// with no cell nothing comes, and nothing is learned
	if told, _ := d.hand(api.Message{Kind: api.MsgFinish, From: 0, To: 1, Txn: x, Key: c.Key, Yes: true}); len(told) != 1 || len(d.s.Map) != 0 {
		t.Errorf("P21.2: %s", brief(d.s))
	}
	// what is aborted moves nothing
	d.hand(api.Message{Kind: api.MsgPrepare, From: 0, To: 1, Txn: name(6, 2), Key: account(4), Req: move(account(4), 0)})
	if told, _ := d.hand(api.Message{Kind: api.MsgFinish, From: 0, To: 1, Txn: name(6, 2), Key: account(4)}); len(told) != 1 || len(d.s.Map) != 0 {
		t.Errorf("P21.2: %s", brief(d.s))
	}
}

// TestGoes: a cell that goes is learned to be where its move says; the last Version can go no further.
func TestGoes(t *testing.T) {
	for _, version := range []int{0, 5, 999998, 999999} {
		for _, c := range []api.Cell{wallet(version), shop(version)} {
			d := newDesk(t, 1, 3)
			d.bring(1, c)
			x := name(2, 1)
			finish := api.Message{Kind: api.MsgFinish, From: 0, To: 1, Txn: x, Key: c.Key, Yes: true}
			d.hand(api.Message{Kind: api.MsgPrepare, From: 0, To: 1, Txn: x, Key: c.Key, Req: move(c.Key, 2)})
			if version == 999999 {
				d.quiet(finish)
				continue
			}
			d.hand(finish)
			if d.place(c.Key) != place(c.Key, 2, version+2) || len(d.s.Part.Cells) != 4 {
				t.Errorf("P21.2: %s", brief(d.s))
			}
		}
	}
}

// TestGoals: a cell goes where the pend of its own key says, whatever the transaction asks of another key.
func TestGoals(t *testing.T) {
	d := newDesk(t, 1, 4)
	x := name(1, 1)
	goals := map[api.Key]int{account(1): 2, account(5): 3, lane(1): 0}
	for key, to := range goals {
		d.hand(api.Message{Kind: api.MsgPrepare, To: 1, Txn: x, Key: key, Req: move(key, to)})
	}
	for key, to := range goals {
		d.hand(api.Message{Kind: api.MsgFinish, To: 1, Txn: x, Key: key, Yes: true})
		if d.place(key) != place(key, to, 1) {
			t.Errorf("P21.2: %v", d.s.Map)
		}
	}
}

// TestDecides: a move that comes to commit is learned at once, by the first cell that a vote brought.
func TestDecides(t *testing.T) {
	x := name(3, 1)
	vote := func(from int, l ...api.Cell) api.Message {
		return api.Message{Kind: api.MsgVote, From: from, To: 0, Txn: x, Key: account(8), Yes: true, Cells: l}
	}
	commit := []api.Mark{{Txn: x, Commit: true}}
	for _, c := range []struct {
		first, second api.Message
		want          api.Place
	}{
		{vote(2, wallet(4)), vote(1), place(account(8), 1, 5)},
		{vote(1), vote(2, wallet(4)), place(account(8), 1, 5)},
		{vote(1, wallet(6)), vote(2, wallet(4)), place(account(8), 1, 7)},
		{vote(1, wallet(999999)), vote(2, wallet(1000000)), place(account(8), 1, 1000000)},
		{vote(1), vote(2), api.Place{}},
	} {
		d := newDesk(t, 0, 3)
		d.hand(asks(0, x, move(account(8), 1)))
		if _, marks := d.hand(c.first); len(marks) != 0 || len(d.s.Map) != 0 {
			t.Errorf("P21.2: %v, %v", marks, d.s.Map)
		}
		if _, marks := d.hand(c.second); !same(marks, commit) || d.place(account(8)) != c.want {
			t.Errorf("P21.2: %v, %v, want %v", marks, d.s.Map, c.want)
		}
		d.quiet(c.second)
	}
	// where that cannot be learned, nothing happens, also of what the vote tells beside
	d := newDesk(t, 0, 3)
	d.hand(asks(0, x, move(account(8), 1)))
	d.hand(vote(1))
	last := vote(2, wallet(1000000))
	d.quiet(last)
	last.Answer.Code, last.Answer.Num, last.Req = api.ErrMoved, 9, move(account(8), 2)
	d.quiet(last)
	// nor is anything learned of another move, which has not come to commit
	d = newDesk(t, 0, 3)
	y := name(6, 1)
	d.hand(asks(0, y, move(lane(2), 1)))
	d.hand(api.Message{Kind: api.MsgVote, From: 2, To: 0, Txn: y, Key: lane(2), Yes: true, Cells: []api.Cell{shop(3)}})
	d.hand(asks(0, x, move(account(8), 1)))
	d.hand(vote(1))
	if d.hand(vote(2, wallet(4))); !same(d.s.Map, []api.Place{place(account(8), 1, 5)}) {
		t.Errorf("P21.2: %v", d.s.Map)
	}
	// no other request is learned from
	d = newDesk(t, 0, 3)
	d.hand(asks(0, y, put(8, 5)))
	yes := vote(2, wallet(4))
	yes.Txn = y
	if _, marks := d.hand(yes); len(marks) != 1 || len(d.s.Map) != 0 {
		t.Errorf("P21.2: %v, %v", marks, d.s.Map)
	}
}

// TestEndings: acks end transactions, wounds abort them; what is answered is what came of it.
func TestEndings(t *testing.T) {
	d := newDesk(t, 0, 3)
	x, y := name(3, 1), name(6, 1)
	order := api.Request{Kind: api.ReqOrder, Account: 1, Lane: 2, Side: api.Sell, Price: 5, N: 6}
	d.hand(asks(0, x, order))
	d.hand(asks(0, y, net(3)))
	d.hand(api.Message{Kind: api.MsgVote, From: 1, To: 0, Txn: x, Key: account(1), Yes: true})
	if _, marks := d.hand(api.Message{Kind: api.MsgVote, From: 2, To: 0, Txn: x, Key: lane(2), Yes: true}); !same(marks, []api.Mark{{Txn: x, Commit: true}}) {
		t.Errorf("P21.2: %v", marks)
	}
	d.quiet(api.Message{Kind: api.MsgWound, From: 1, To: 0, Txn: x})
	d.hand(api.Message{Kind: api.MsgWound, From: 1, To: 0, Txn: y})
	fills := []api.Fill{{Buyer: 2, Seller: 1, Price: 7, N: 6}}
	d.hand(api.Message{Kind: api.MsgAck, From: 2, To: 0, Txn: x, Key: lane(2), Answer: api.Answer{Num: 7, Fills: fills}})
	told, marks := d.hand(api.Message{Kind: api.MsgAck, From: 1, To: 0, Txn: x, Key: account(1)})
	if !same(told, []api.Message{answers(0, x, api.Answer{Num: 7, Fills: fills})}) || len(marks) != 0 {
		t.Errorf("P21.2: %v, %v", told, marks)
	}
	for i, key := range []api.Key{account(3), lane(3), lane(1), lane(2)} {
		told, _ = d.hand(api.Message{Kind: api.MsgAck, From: key.N % 3, To: 0, Txn: y, Key: key})
		if (len(told) == 1) != (i == 3) {
			t.Errorf("P21.2: %v", told)
		}
	}
	if !same(told, []api.Message{answers(0, y, api.Answer{Code: api.ErrWounded})}) || len(d.s.Coord.Trans) != 0 {
		t.Errorf("P21.2: %v, %s", told, brief(d.s))
	}
	for _, s := range d.s.Sessions {
		if !s.Done {
			t.Errorf("P21.2: %v", s)
		}
	}
	// the next ones are new
	d.hand(asks(0, name(3, 2), order))
	d.hand(asks(0, name(6, 2), order))
	if len(d.s.Coord.Trans) != 2 {
		t.Errorf("P21.2: %s", brief(d.s))
	}
}

// TestRejected: a participant's marks are told.
func TestRejected(t *testing.T) {
	d := newDesk(t, 0, 1)
	x := name(2, 1)
	take := api.Request{Kind: api.ReqWithdraw, Account: 1, N: 1}
	if told, marks := d.hand(api.Message{Kind: api.MsgPrepare, Txn: x, Key: account(1), Req: take}); len(told) != 0 || !same(marks, []api.Mark{{Txn: x}}) {
		t.Errorf("P21.2: %v, %v", told, marks)
	}
	// one that waited is marked when the one ahead ends
	d.hand(api.Message{Kind: api.MsgPrepare, Txn: name(3, 1), Key: account(1), Req: take})
	if told, marks := d.hand(api.Message{Kind: api.MsgFinish, Txn: x, Key: account(1)}); len(told) != 1 || !same(marks, []api.Mark{{Txn: name(3, 1)}}) {
		t.Errorf("P21.2: %v, %v", told, marks)
	}
}

// TestOthers: what is to another group, or to a client, is nothing here.
func TestOthers(t *testing.T) {
	for _, m := range fulls() {
		for to := range 4 {
			d := newDesk(t, 2, 4)
			if m.Kind != api.MsgAnswer {
				m.To = to
			}
			d.hand(m)
			if m.To != 2 {
				d.quiet(m)
			}
		}
	}
}
