package coord_test

import (
	"slices"
	"testing"

	"rialto/api"
	"rialto/coord"
)

// hub is a coordinator at which one thing happens behind the other; each is held against the plain one.
type hub struct {
	*testing.T
	c api.Coord
}

func newHub(t *testing.T, group int) *hub {
	t.Helper()
	c, e := coord.New(group)
	if e != api.OK {
		t.Fatalf("P19.1: New(%d): %d", group, e)
	}
	return &hub{t, c}
}

func (h *hub) look() {
	h.Helper()
	if out := coord.Out(h.c); !same(out, plainOut(h.c)) {
		h.Fatalf("P19.5: of %s: %s", brief(h.c), brief(out))
	}
}

func (h *hub) begin(t api.Txn, r api.Request, peers ...api.Peer) api.Errno {
	h.Helper()
	was, given := clone(h.c), slices.Clone(peers)
	c, e := coord.Begin(h.c, t, r, peers)
	if pc, pe := plainBegin(h.c, t, r, peers); !same(c, pc) || e != pe {
		h.Fatalf("P19.2: %v, %v, %v: of %s: %s, %d, want %s, %d", t, r, peers, brief(h.c), brief(c), e, brief(pc), pe)
	}
	if !same(h.c, was) || !slices.Equal(peers, given) {
		h.Fatalf("R5: %s became %s, %v became %v", brief(was), brief(h.c), given, peers)
	}
	if e == api.OK {
		h.c = c
	}
	h.look()
	return e
}

func (h *hub) hear(m api.Message) ([]api.Mark, api.Errno) {
	h.Helper()
	was := clone(h.c)
	c, marks, e := coord.Hear(h.c, m)
	if pc, pm, pe := plainHear(h.c, m); !same(c, pc) || !same(marks, pm) || e != pe {
		h.Fatalf("P19.3: %s: of %s: %s, %v, %d, want %s, %v, %d", brief(m), brief(h.c), brief(c), marks, e, brief(pc), pm, pe)
	}
	if e != api.OK && (!same(c, api.Coord{}) || len(marks) != 0) {
		h.Fatalf("R3: %s: %s, %v, %d", brief(m), brief(c), marks, e)
	}
	if !same(h.c, was) {
		h.Fatalf("R5: %s became %s", brief(was), brief(h.c))
	}
	if e == api.OK {
		h.c = c
	}
	h.look()
	return marks, e
}

func (h *hub) ended() (api.Trans, bool) {
	h.Helper()
	was := clone(h.c)
	c, t, ok := coord.Ended(h.c)
	if pc, pt, pok := plainEnded(h.c); !same(c, pc) || !same(t, pt) || ok != pok {
		h.Fatalf("P19.4: of %s: %s, %s, %v, want %s, %s, %v", brief(h.c), brief(c), brief(t), ok, brief(pc), brief(pt), pok)
	}
	if !same(h.c, was) {
		h.Fatalf("R5: %s became %s", brief(was), brief(h.c))
	}
	h.c = c
	h.look()
	return t, ok
}

// reply is a message from a peer of a transaction to the hub.
func (h *hub) reply(kind int, t api.Txn, p api.Peer) api.Message {
	return api.Message{Kind: kind, From: p.Group, To: h.c.Group, Txn: t, Key: p.Key}
}

func (h *hub) vote(t api.Txn, p api.Peer, l ...api.Amount) []api.Mark {
	h.Helper()
	m := h.reply(api.MsgVote, t, p)
	m.Yes, m.Answer.Amounts = true, l
	marks, _ := h.hear(m)
	return marks
}

func (h *hub) ack(t api.Txn, p api.Peer, a api.Answer) {
	h.Helper()
	m := h.reply(api.MsgAck, t, p)
	m.Answer = a
	if marks, e := h.hear(m); len(marks) != 0 || e != api.OK {
		h.Fatalf("P19.3: %v: %v, %d", m, marks, e)
	}
}

var (
	put   = api.Request{Kind: api.ReqDeposit, Account: 1, N: 5}
	order = api.Request{Kind: api.ReqOrder, Account: 1, Lane: 2, Side: api.Buy, Price: 3, N: 4}
)

func TestExample(t *testing.T) {
	h := newHub(t, 2)
	one, p := name(1, 1), peer(account(1), 1)
	if e := h.begin(one, put, p); e != api.OK || h.c.Trans[0].State != api.TransAsks {
		t.Errorf("P19.2: %d, %v", e, h.c)
	}
	if out := coord.Out(h.c); !same(out, []api.Message{{Kind: api.MsgPrepare, From: 2, To: 1, Txn: one, Key: account(1), Req: put}}) {
		t.Errorf("P19.5: %v", out)
	}
	if marks := h.vote(one, p); !same(marks, []api.Mark{{Txn: one, Commit: true}}) || h.c.Trans[0].State != api.TransCommits {
		t.Errorf("P19.3: %v, %v", marks, h.c)
	}
	if out := coord.Out(h.c); !same(out, []api.Message{{Kind: api.MsgFinish, From: 2, To: 1, Txn: one, Key: account(1), Yes: true}}) {
		t.Errorf("P19.5: %v", out)
	}
	if x, ok := h.ended(); ok || !same(x, api.Trans{}) || len(h.c.Trans) != 1 {
		t.Errorf("P19.4: %v, %v", x, ok)
	}
	h.ack(one, p, api.Answer{})
	if out := coord.Out(h.c); len(out) != 0 {
		t.Errorf("P19.5: %v", out)
	}
	want := api.Trans{Txn: one, Req: put, Peers: []api.Peer{{Key: account(1), Group: 1, Voted: true, Acked: true}}, State: api.TransCommits}
	if x, ok := h.ended(); !ok || !same(x, want) || !same(h.c, api.Coord{Group: 2}) {
		t.Errorf("P19.4: %v, %v, %v", x, ok, h.c)
	}
	m := h.reply(api.MsgVote, one, p)
	m.Yes = true
	if marks, e := h.hear(m); len(marks) != 0 || e != api.ErrCoordNone {
		t.Errorf("P19.3: %v, %d", marks, e)
	}
	// it is there no more, so that it may begin
	if e := h.begin(one, put, p); e != api.OK {
		t.Errorf("P19.2: %d", e)
	}
}

func TestNew(t *testing.T) {
	for _, group := range edges {
		c, e := coord.New(group)
		if pc, pe := plainNew(group); !same(c, pc) || e != pe {
			t.Errorf("P19.1: New(%d): %v, %d, want %v, %d", group, c, e, pc, pe)
		}
	}
	for group, want := range map[int]api.Errno{-1: api.ErrArg, 0: api.OK, 3: api.OK, 4: api.ErrArg} {
		if c, e := coord.New(group); e != want || len(c.Trans) != 0 || e == api.OK && c.Group != group {
			t.Errorf("P19.1: New(%d): %v, %d", group, c, e)
		}
	}
	c, _ := coord.New(1)
	if x, y, ok := coord.Ended(c); !same(x, c) || !same(y, api.Trans{}) || ok || len(coord.Out(c)) != 0 {
		t.Errorf("P19.4, P19.5: %v, %v, %v", x, y, ok)
	}
}

// TestBegin: names, requests and peers that may not be; of several errors the first one is told.
func TestBegin(t *testing.T) {
	a, b := peer(account(1), 1), peer(lane(2), 2)
	five := []api.Peer{a, b, peer(lane(1), 0), peer(lane(3), 3), peer(account(1), 0)}
	voted, acked := a, a
	voted.Voted, acked.Acked = true, true
	bad := order
	bad.Price = 0
	for i, c := range []struct {
		t     api.Txn
		r     api.Request
		peers []api.Peer
		e     api.Errno
	}{
		{name(1, 1), order, []api.Peer{a, b}, api.OK},
		{name(6, 100000), order, five, api.OK},
		{name(1, 2), put, []api.Peer{b}, api.OK}, // peers need not be the request's own keys
		{name(1, 1), order, []api.Peer{peer(account(1), 1), peer(account(1), 2)}, api.OK},
		{name(1, 1), order, []api.Peer{peer(account(1), 1), peer(lane(1), 1), peer(account(2), 1)}, api.OK},
		{name(1, 1), order, nil, api.ErrCoordForm},
		{name(1, 1), order, []api.Peer{}, api.ErrCoordForm},
		{name(1, 1), order, append(slices.Clip(five), peer(account(2), 0)), api.ErrCoordForm},
		{name(1, 1), order, slices.Repeat([]api.Peer{a}, 1000), api.ErrCoordForm},
		{name(1, 1), order, []api.Peer{a, a}, api.ErrCoordForm},
		{name(1, 1), order, []api.Peer{a, b, a}, api.ErrCoordForm},
		{name(1, 1), order, []api.Peer{b, a, five[2], five[3], b}, api.ErrCoordForm},
		{name(1, 1), order, []api.Peer{voted}, api.ErrCoordForm},
		{name(1, 1), order, []api.Peer{acked}, api.ErrCoordForm},
		{name(1, 1), order, []api.Peer{b, voted}, api.ErrCoordForm},
		{name(1, 1), order, []api.Peer{b, acked}, api.ErrCoordForm},
		{name(1, 1), order, []api.Peer{{}}, api.ErrCoordForm},
		{name(1, 1), order, []api.Peer{a, peer(account(9), 1)}, api.ErrCoordForm},
		{name(1, 1), order, []api.Peer{peer(lane(4), 1), a}, api.ErrCoordForm},
		{name(1, 1), order, []api.Peer{a, peer(account(1), 4)}, api.ErrCoordForm},
		{name(1, 1), order, []api.Peer{peer(account(1), -1)}, api.ErrCoordForm},
		{name(0, 1), order, []api.Peer{a, b}, api.ErrArg},
		{name(7, 1), order, []api.Peer{a, b}, api.ErrArg},
		{name(1, 0), order, []api.Peer{a, b}, api.ErrArg},
		{name(1, 100001), order, []api.Peer{a, b}, api.ErrArg},
		{name(1, 1), bad, []api.Peer{a, b}, api.ErrArg},
		{name(1, 1), api.Request{}, []api.Peer{a, b}, api.ErrArg},
		{name(0, 1), order, nil, api.ErrArg},
		{name(1, 1), bad, nil, api.ErrArg},
		{name(3, 3), bad, []api.Peer{a}, api.ErrArg},
		{name(3, 3), put, nil, api.ErrCoordTwice},
		{name(3, 3), put, []api.Peer{voted}, api.ErrCoordTwice},
		{name(3, 3), order, []api.Peer{a, b}, api.ErrCoordTwice},
	} {
		h := newHub(t, 1)
		h.begin(name(3, 3), put, a)
		h.begin(name(4, 3), put, a)
		was := clone(h.c)
		if e := h.begin(c.t, c.r, c.peers...); e != c.e {
			t.Errorf("P19.2: %d: %d, want %d", i, e, c.e)
		}
		if c.e == api.OK {
			was.Trans = append(was.Trans, api.Trans{Txn: c.t, Req: c.r, Peers: c.peers, State: api.TransAsks})
		}
		if !same(h.c, was) {
			t.Errorf("P19.2: %d: %v, want %v", i, h.c, was)
		}
	}
}

// TestBeginEdges brings each field of what is begun to every edge.
func TestBeginEdges(t *testing.T) {
	for _, n := range edges {
		for field := range 15 {
			h := newHub(t, 0)
			h.begin(name(1, 1), put, peer(account(1), 0))
			txn, r, p := name(1, 2), order, peer(account(2), 1)
			*[]*int{&txn.Client, &txn.Seq, &p.Key.Kind, &p.Key.N, &p.Group,
				&r.Kind, &r.Account, &r.Lane, &r.Asset, &r.Side, &r.Price, &r.N, &r.Key.Kind, &r.Key.N, &r.To}[field] = n
			h.begin(txn, r, p)
			h.begin(txn, r, peer(lane(1), 3), p)
			h.begin(txn, r, p, peer(account(2), 2), peer(account(2), 1))
		}
	}
}

// TestForms brings each field of messages to every edge, in each state of the transaction.
func TestForms(t *testing.T) {
	times := map[api.Errno]int{}
	a, b := peer(account(1), 1), peer(lane(2), 3)
	for state := api.TransAsks; state <= api.TransAborts; state++ {
		for _, kind := range []int{api.MsgVote, api.MsgWound, api.MsgAck} {
			for field := range 7 {
				for _, n := range edges {
					h := newHub(t, 2)
					h.begin(name(4, 1), put, a)
					h.begin(name(1, 2), order, a, b)
					switch state {
					case api.TransCommits:
						h.vote(name(1, 2), a)
						h.vote(name(1, 2), b)
					case api.TransAborts:
						h.hear(h.reply(api.MsgWound, name(1, 2), a))
					}
					for _, p := range []api.Peer{a, b} {
						m := h.reply(kind, name(1, 2), p)
						*[]*int{&m.Kind, &m.From, &m.To, &m.Txn.Client, &m.Txn.Seq, &m.Key.Kind, &m.Key.N}[field] = n
						m.Yes = n%2 == 0
						_, e := h.hear(m)
						times[e]++
					}
				}
			}
		}
	}
	if times[api.OK] < 100 || times[api.ErrCoordForm] < 300 || times[api.ErrCoordNone] < 300 || len(times) != 3 {
		t.Errorf("too few of them tell something: %v", times)
	}
}

// TestHearForm: what is not as it must be is told ahead of what is not there; a MsgWound needs no peer, but Amounts that are such.
func TestHearForm(t *testing.T) {
	h := newHub(t, 2)
	a, b := peer(account(1), 1), peer(lane(2), 3)
	h.begin(name(1, 2), order, a, b)
	good, bad := amounts(amount(0, 1), amount(3, 1<<53)), amounts(amount(1, 1), amount(1, 1))
	for i, c := range []struct {
		m api.Message
		l []api.Amount
		e api.Errno
	}{
		{h.reply(api.MsgAck, name(1, 2), a), nil, api.OK},
		{h.reply(api.MsgAck, name(1, 2), b), good, api.OK},
		{h.reply(api.MsgVote, name(1, 2), b), good, api.OK},
		{h.reply(api.MsgWound, name(1, 2), peer(api.Key{}, 0)), good, api.OK},
		{h.reply(api.MsgWound, name(1, 2), peer(account(9), -7)), nil, api.OK},
		{h.reply(api.MsgVote, name(1, 2), peer(account(1), 3)), nil, api.ErrCoordNone},
		{h.reply(api.MsgVote, name(1, 2), peer(lane(2), 1)), nil, api.ErrCoordNone},
		{h.reply(api.MsgAck, name(1, 2), peer(account(2), 1)), nil, api.ErrCoordNone},
		{h.reply(api.MsgVote, name(2, 2), a), nil, api.ErrCoordNone},
		{h.reply(api.MsgWound, name(1, 1), a), nil, api.ErrCoordNone},
		{h.reply(api.MsgAck, api.Txn{}, a), nil, api.ErrCoordNone},
		{h.reply(api.MsgVote, name(1, 2), a), bad, api.ErrCoordForm},
		{h.reply(api.MsgAck, name(1, 2), a), bad, api.ErrCoordForm},
		{h.reply(api.MsgWound, name(1, 2), a), bad, api.ErrCoordForm},
		{h.reply(api.MsgWound, name(2, 2), a), bad, api.ErrCoordForm},
		{h.reply(api.MsgVote, name(2, 2), a), amounts(amount(0, 0)), api.ErrCoordForm},
		{h.reply(api.MsgVote, name(1, 2), a), amounts(amount(4, 1)), api.ErrCoordForm},
		{h.reply(api.MsgVote, name(1, 2), a), amounts(amount(-1, 1)), api.ErrCoordForm},
		{h.reply(api.MsgVote, name(1, 2), a), amounts(amount(0, 1<<53+1)), api.ErrCoordForm},
		{h.reply(api.MsgVote, name(1, 2), a), amounts(amount(2, 1), amount(0, 1)), api.ErrCoordForm},
		{h.reply(api.MsgAsk, name(1, 2), a), nil, api.ErrCoordForm},
		{h.reply(api.MsgPrepare, name(1, 2), a), nil, api.ErrCoordForm},
		{h.reply(api.MsgFinish, name(1, 2), a), nil, api.ErrCoordForm},
		{h.reply(api.MsgAnswer, name(1, 2), a), nil, api.ErrCoordForm},
		{h.reply(0, name(1, 2), a), nil, api.ErrCoordForm},
		{h.reply(8, name(9, 9), a), nil, api.ErrCoordForm},
		{api.Message{Kind: api.MsgVote, From: 1, To: 1, Txn: name(1, 2), Key: account(1), Yes: true}, nil, api.ErrCoordForm},
		{api.Message{Kind: api.MsgWound, From: 1, To: -1, Txn: name(1, 2)}, nil, api.ErrCoordForm},
	} {
		x := &hub{t, clone(h.c)}
		c.m.Answer.Amounts = c.l
		if marks, e := x.hear(c.m); e != c.e || len(marks) != 0 {
			t.Errorf("P19.3: %d: %v, %d, want %d", i, marks, e, c.e)
		}
	}
}

// TestVotes: with each vote what it brings comes behind what was there; with the last one it is decided.
func TestVotes(t *testing.T) {
	h := newHub(t, 0)
	one := name(2, 7)
	net := api.Request{Kind: api.ReqNet, Account: 4}
	peers := []api.Peer{peer(account(4), 1), peer(lane(1), 1), peer(lane(2), 2), peer(lane(3), 0), peer(account(4), 3)}
	h.begin(one, net, peers...)
	const most = 1 << 53
	cells := []api.Cell{{Key: account(4), Version: 3, Account: api.Account{Free: amounts(amount(1, 2)), Count: 1}}, {Key: lane(2)}}
	brought := [][]api.Amount{
		{amount(2, 5)},
		{amount(0, 7), amount(2, most)},
		nil,
		{amount(0, most), amount(1, 1), amount(2, most), amount(3, 1)},
		{amount(0, most), amount(2, most), amount(3, 2)},
	}
	want := [][]api.Amount{
		{amount(2, 5)},
		{amount(0, 7), amount(2, most+5)},
		{amount(0, 7), amount(2, most+5)},
		{amount(0, most+7), amount(1, 1), amount(2, 2*most+5), amount(3, 1)},
		{amount(0, 2*most+7), amount(1, 1), amount(2, 3*most+5), amount(3, 3)},
	}
	var all []api.Cell
	for i, at := range []int{3, 0, 4, 1, 2} {
		m := h.reply(api.MsgVote, one, peers[at])
		m.Yes, m.Answer, m.Cells = true, api.Answer{Code: 6, Num: 9, Amounts: brought[i], Fills: []api.Fill{{Buyer: 1}}}, cells[:i%3]
		all = append(all, cells[:i%3]...)
		marks, e := h.hear(m)
		x := h.c.Trans[0]
		if e != api.OK || !slices.Equal(x.Amounts, want[i]) || !same(x.Cells, all) || !same(x.Answer, api.Answer{}) || !x.Peers[at].Voted || x.Peers[at].Acked {
			t.Errorf("P19.3: %d: %v, %d, %v", i, marks, e, x)
		}
		if last := i == 4; (x.State == api.TransCommits) != last || same(marks, []api.Mark{{Txn: one, Commit: true}}) != last || (len(marks) == 0) == last {
			t.Errorf("P19.3: %d: %v, %v", i, marks, x)
		}
		if out := coord.Out(h.c); i < 4 && (len(out) != 4-i || out[0].Kind != api.MsgPrepare || out[0].Req != net) {
			t.Errorf("P19.5: %d: %v", i, out)
		}
		was := clone(h.c)
		if marks, e := h.hear(m); len(marks) != 0 || e != api.OK || !same(h.c, was) {
			t.Errorf("P19.6: %d: %v, %d, %v", i, marks, e, h.c)
		}
	}
	out := coord.Out(h.c)
	for i, p := range peers {
		m := api.Message{Kind: api.MsgFinish, To: p.Group, Txn: one, Key: p.Key, Yes: true, Answer: api.Answer{Amounts: want[4]}, Cells: all}
		if len(out) != 5 || !same(out[i], m) {
			t.Fatalf("P19.5: %v, want %v", out, m)
		}
	}
}

// TestNo: one vote without Yes is enough, whether its peer has said Yes or not; nothing is marked, and what was brought is told still.
func TestNo(t *testing.T) {
	a, b := peer(account(1), 1), peer(lane(2), 3)
	for _, code := range []api.Errno{api.OK, api.ErrBusy, api.ErrMoved, api.ErrRejected, api.ErrWounded, 999, -1} {
		for _, p := range []api.Peer{a, b} {
			h := newHub(t, 2)
			h.begin(name(1, 1), order, a, b)
			h.vote(name(1, 1), a, amount(1, 6))
			m := h.reply(api.MsgVote, name(1, 1), p)
			m.Answer, m.Cells = api.Answer{Code: code, Num: 3, Amounts: amounts(amount(0, 9)), Fills: []api.Fill{{}}}, []api.Cell{{Key: account(1)}}
			marks, e := h.hear(m)
			want := api.Trans{Txn: name(1, 1), Req: order, Peers: []api.Peer{{Key: account(1), Group: 1, Voted: true}, b}, State: api.TransAborts, Amounts: amounts(amount(1, 6)), Answer: api.Answer{Code: code}}
			if len(marks) != 0 || e != api.OK || !same(h.c.Trans, []api.Trans{want}) {
				t.Errorf("P19.3: %v, %d, %v, want %v", marks, e, h.c, want)
			}
			no := api.Message{Kind: api.MsgFinish, From: 2, To: 1, Txn: name(1, 1), Key: account(1), Answer: api.Answer{Amounts: amounts(amount(1, 6))}}
			also := no
			also.To, also.Key = 3, lane(2)
			if out := coord.Out(h.c); !same(out, []api.Message{no, also}) {
				t.Errorf("P19.5: %v", out)
			}
			// it never turns
			was := clone(h.c)
			m.Answer.Code++
			h.hear(m)
			h.hear(h.reply(api.MsgWound, name(1, 1), b))
			if marks := append(h.vote(name(1, 1), b), h.vote(name(1, 1), a)...); len(marks) != 0 || !same(h.c, was) {
				t.Errorf("P19.6: %v, %v", marks, h.c)
			}
		}
	}
}

func TestWound(t *testing.T) {
	a, b := peer(account(1), 1), peer(lane(2), 3)
	h := newHub(t, 2)
	h.begin(name(1, 1), order, a, b)
	h.begin(name(2, 1), order, a, b)
	h.vote(name(1, 1), a)
	h.vote(name(1, 1), b)
	h.vote(name(2, 1), a)
	was := clone(h.c)
	if marks, e := h.hear(h.reply(api.MsgWound, name(1, 1), a)); len(marks) != 0 || e != api.OK || !same(h.c, was) {
		t.Errorf("P19.3: decided to commit, and wounded: %v, %d, %v", marks, e, h.c)
	}
	m := h.reply(api.MsgWound, name(2, 1), peer(api.Key{}, 0))
	m.Answer.Code = api.ErrBusy
	was.Trans[1].State, was.Trans[1].Answer.Code = api.TransAborts, api.ErrWounded
	for range 2 {
		if marks, e := h.hear(m); len(marks) != 0 || e != api.OK || !same(h.c, was) {
			t.Errorf("P19.3: %v, %d, %v, want %v", marks, e, h.c, was)
		}
	}
	no := h.reply(api.MsgVote, name(2, 1), b)
	no.Answer.Code = api.ErrRejected
	h.hear(no)
	if marks := h.vote(name(2, 1), b); len(marks) != 0 || !same(h.c, was) {
		t.Errorf("P19.6: %v, %v", marks, h.c)
	}
}

// TestAcks: what peers answer is put together where it was decided to commit; where not, nothing but that they have heard.
func TestAcks(t *testing.T) {
	peers := []api.Peer{peer(account(1), 1), peer(lane(2), 3), peer(lane(1), 1)}
	fill := func(n int) []api.Fill { return []api.Fill{{Buyer: 1, Seller: 2, Price: 3, N: n}} }
	said := []api.Answer{
		{Code: 6, Num: 8, Amounts: amounts(amount(1, 1), amount(2, 1)), Fills: slices.Concat(fill(1), fill(2))},
		{},
		{Num: 9, Amounts: amounts(amount(3, 1)), Fills: slices.Concat(fill(1), fill(3))},
	}
	got := []api.Answer{
		{Num: 8, Amounts: said[0].Amounts, Fills: said[0].Fills},
		{Num: 8, Amounts: said[0].Amounts, Fills: said[0].Fills},
		{Num: 9, Amounts: said[2].Amounts, Fills: slices.Concat(fill(1), fill(2), fill(1), fill(3))},
	}
	for _, commits := range []bool{true, false} {
		h := newHub(t, 0)
		h.begin(name(1, 1), order, peers...)
		for _, p := range peers {
			h.ack(name(1, 1), p, said[0]) // it is not decided: nothing
		}
		if !commits {
			h.hear(h.reply(api.MsgWound, name(1, 1), peers[0]))
		}
		for _, p := range peers {
			h.vote(name(1, 1), p, amount(0, 2))
		}
		decided := h.c.Trans[0]
		if (decided.State == api.TransCommits) != commits || len(coord.Out(h.c)) != 3 {
			t.Fatalf("P19.3: %v", h.c)
		}
		for i, at := range []int{2, 0, 1} {
			if _, ok := h.ended(); ok {
				t.Errorf("P19.4: %v", h.c)
			}
			h.ack(name(1, 1), peers[at], said[i])
			decided.Peers[at].Acked = true
			if commits {
				decided.Answer = got[i]
			}
			was := clone(h.c)
			h.ack(name(1, 1), peers[at], said[0])
			if !same(h.c.Trans, []api.Trans{decided}) || !same(h.c, was) {
				t.Errorf("P19.3: %d: %v, want %v", i, h.c, decided)
			}
		}
		if x, ok := h.ended(); !ok || !same(x, decided) || len(h.c.Trans) != 0 {
			t.Errorf("P19.4: %v, %v, want %v", x, ok, decided)
		}
	}
}

// TestAckFields: each part of an answer is taken for itself.
func TestAckFields(t *testing.T) {
	a, b := peer(account(1), 1), peer(lane(2), 3)
	fills := []api.Fill{{Buyer: 1, Seller: 2, Price: 3, N: 4}}
	had := amounts(amount(0, 5))
	first := api.Answer{Num: 7, Amounts: had, Fills: fills}
	for i, c := range []struct{ said, want api.Answer }{
		{api.Answer{}, first},
		{api.Answer{Amounts: amounts(), Fills: []api.Fill{}}, first},
		{api.Answer{Num: 1}, api.Answer{Num: 1, Amounts: had, Fills: fills}},
		{api.Answer{Num: -1}, api.Answer{Num: -1, Amounts: had, Fills: fills}},
		{api.Answer{Amounts: amounts(amount(3, 1))}, api.Answer{Num: 7, Amounts: amounts(amount(3, 1)), Fills: fills}},
		{api.Answer{Fills: fills}, api.Answer{Num: 7, Amounts: had, Fills: slices.Concat(fills, fills)}},
		{api.Answer{Code: api.ErrRejected}, first},
	} {
		h := newHub(t, 0)
		h.begin(name(1, 1), order, a, b)
		h.vote(name(1, 1), a)
		h.vote(name(1, 1), b)
		h.ack(name(1, 1), b, first)
		h.ack(name(1, 1), a, c.said)
		if got := h.c.Trans[0].Answer; !same(got, c.want) {
			t.Errorf("P19.3: %d: %v, want %v", i, got, c.want)
		}
	}
}

// TestEnded: the first one that is over goes, wherever it stands; the others stay in their order.
func TestEnded(t *testing.T) {
	h := newHub(t, 0)
	a, b := peer(account(1), 1), peer(account(1), 2)
	for seq := 1; seq <= 5; seq++ {
		h.begin(name(1, seq), put, a, b)
	}
	for _, seq := range []int{4, 2} {
		h.hear(h.reply(api.MsgWound, name(1, seq), a))
		h.ack(name(1, seq), b, api.Answer{})
		h.ack(name(1, seq), a, api.Answer{})
	}
	h.vote(name(1, 5), a)
	h.vote(name(1, 5), b)
	h.ack(name(1, 5), b, api.Answer{}) // the last peer alone is not all of them
	h.vote(name(1, 3), a)
	h.vote(name(1, 3), b)
	h.ack(name(1, 3), a, api.Answer{}) // nor is the first one
	for _, want := range []int{2, 4} {
		if x, ok := h.ended(); !ok || x.Txn != name(1, want) || x.State != api.TransAborts || x.Answer.Code != api.ErrWounded {
			t.Errorf("P19.4: %v, %v", x, ok)
		}
	}
	was := clone(h.c)
	if x, ok := h.ended(); ok || !same(x, api.Trans{}) || !same(h.c, was) {
		t.Errorf("P19.4: %v, %v", x, ok)
	}
	if len(was.Trans) != 3 || was.Trans[0].Txn != name(1, 1) || was.Trans[1].Txn != name(1, 3) || was.Trans[2].Txn != name(1, 5) {
		t.Errorf("P19.4: %v", was)
	}
}

// TestOut: of each transaction and each peer in their order what it has not heard, or not answered.
func TestOut(t *testing.T) {
	h := newHub(t, 3)
	a, b := peer(account(1), 1), peer(lane(2), 3)
	for client := 1; client <= 4; client++ {
		h.begin(name(client, 9), order, a, b)
		if client != 2 {
			h.vote(name(client, 9), b, amount(client%4, 1))
		}
	}
	h.vote(name(1, 9), a)
	h.hear(h.reply(api.MsgWound, name(4, 9), a))
	h.ack(name(4, 9), a, api.Answer{})
	prepare := func(client int, p api.Peer) api.Message {
		return api.Message{Kind: api.MsgPrepare, From: 3, To: p.Group, Txn: name(client, 9), Key: p.Key, Req: order}
	}
	finish := func(client int, p api.Peer, yes bool) api.Message {
		return api.Message{Kind: api.MsgFinish, From: 3, To: p.Group, Txn: name(client, 9), Key: p.Key, Yes: yes, Answer: api.Answer{Amounts: amounts(amount(client%4, 1))}}
	}
	want := []api.Message{finish(1, a, true), finish(1, b, true), prepare(2, a), prepare(2, b), prepare(3, a), finish(4, b, false)}
	if out := coord.Out(h.c); !same(out, want) {
		t.Errorf("P19.5: %v, want %v", out, want)
	}
}
