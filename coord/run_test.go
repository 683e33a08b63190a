package coord_test

import (
	"math/rand"
	"slices"
	"testing"

	"rialto/api"
	"rialto/coord"
)

func somePeers(r *rand.Rand) []api.Peer {
	var l []api.Peer
	for range 1 + r.Intn(4) {
		p := peer(account(1+r.Intn(2)), r.Intn(2))
		if r.Intn(2) == 0 {
			p.Key.Kind = api.KeyLane
		}
		if !slices.Contains(l, p) {
			l = append(l, p)
		}
	}
	return l
}

func someAmounts(r *rand.Rand) []api.Amount {
	var l []api.Amount
	for asset := range 4 {
		if r.Intn(4) == 0 {
			l = append(l, amount(asset, []int{1, 7, 1 << 53}[r.Intn(3)]))
		}
	}
	if r.Intn(40) == 0 {
		l = append(l, amount(r.Intn(6)-1, r.Intn(3)-1))
	}
	return l
}

func someFills(r *rand.Rand) []api.Fill {
	return slices.Repeat([]api.Fill{{Buyer: 1, Seller: 2, Price: 3, N: 1 + r.Intn(9)}}, r.Intn(3))
}

func someCells(r *rand.Rand) []api.Cell {
	var l []api.Cell
	for range r.Intn(3) {
		orders := slices.Repeat([]api.Order{{Id: 1 + r.Intn(9)}}, r.Intn(2))
		l = append(l, api.Cell{
			Key: account(1 + r.Intn(2)), Version: r.Intn(9), Account: api.Account{Free: amounts(amount(r.Intn(4), 1)), Count: r.Intn(9)},
			Lane: api.Lane{Bids: orders, Asks: slices.Clone(orders), Owed: slices.Repeat([]api.Owed{{Account: 1, N: 1 + r.Intn(9)}}, r.Intn(2))},
		})
	}
	return l
}

// someMessage is of a transaction that is there, most times, and from a peer of it.
func someMessage(r *rand.Rand, c api.Coord) api.Message {
	m := api.Message{Kind: []int{api.MsgVote, api.MsgVote, api.MsgVote, api.MsgAck, api.MsgAck, api.MsgAck, api.MsgVote, api.MsgAck, api.MsgWound}[r.Intn(9)], From: r.Intn(2), To: c.Group}
	m.Txn, m.Key = name(1+r.Intn(6), 1+r.Intn(9)), account(1+r.Intn(2))
	if len(c.Trans) > 0 && r.Intn(10) > 0 {
		t := c.Trans[r.Intn(len(c.Trans))]
		p := t.Peers[r.Intn(len(t.Peers))]
		m.Txn, m.Key, m.From = t.Txn, p.Key, p.Group
	}
	if r.Intn(40) == 0 {
		m.Kind, m.To = r.Intn(9), r.Intn(4)
	}
	m.Yes = r.Intn(6) > 0
	m.Answer = api.Answer{Num: r.Intn(3), Amounts: someAmounts(r), Fills: someFills(r)}
	if !m.Yes {
		m.Answer.Code = []api.Errno{api.ErrBusy, api.ErrMoved, api.ErrRejected}[r.Intn(3)]
	}
	m.Cells = someCells(r)
	return m
}

// TestRuns lets transactions begin, hear and end at random: no decision turns, each is marked once, and what comes again changes nothing.
func TestRuns(t *testing.T) {
	times := map[string]int{}
	for seed := range int64(50) {
		r := rand.New(rand.NewSource(seed))
		h := newHub(t, r.Intn(4))
		state, marked := map[api.Txn]int{}, map[api.Txn]int{}
		var seqs [7]int
		for range 200 {
			if client := 1 + r.Intn(6); r.Intn(5) == 0 && len(h.c.Trans) < 8 {
				seqs[client]++
				h.begin(name(client, seqs[client]), put, somePeers(r)...)
				h.begin(name(client, seqs[client]), order, somePeers(r)...)
			}
			m := someMessage(r, h.c)
			marks, e := h.hear(m)
			times["error "+string(rune('0'+int(e)%10))]++
			for _, x := range marks {
				marked[x.Txn]++
			}
			was := clone(h.c)
			if none, f := h.hear(m); len(none) != 0 || f != e || !same(h.c, was) {
				t.Fatalf("P19.6: %s came again: %v, %d, %s", brief(m), none, f, brief(h.c))
			}
			for _, x := range h.c.Trans {
				if old := state[x.Txn]; old > api.TransAsks && old != x.State {
					t.Fatalf("P19.6: %v turned from %d to %d", x.Txn, old, x.State)
				}
				state[x.Txn] = x.State
				if want := x.State == api.TransCommits; (marked[x.Txn] == 1) != want || marked[x.Txn] > 1 {
					t.Fatalf("P19.6: %v is marked %d times", x, marked[x.Txn])
				}
			}
			if x, ok := h.ended(); ok {
				times["ended "+string(rune('0'+x.State))]++
			}
		}
	}
	for _, what := range []string{"error 0", "error 1", "ended 2", "ended 3"} {
		if times[what] < 200 {
			t.Errorf("too few of them tell something: %v", times)
		}
	}
}

// spoil fills a list and its spare room.
func spoil[T any](l []T, with T) {
	for i := range l[:cap(l)] {
		l[:cap(l)][i] = with
	}
}

func spoilAnswer(a api.Answer) {
	spoil(a.Amounts, amount(-7, -7))
	spoil(a.Fills, api.Fill{Buyer: -7})
}

func spoilCells(l []api.Cell) {
	for _, c := range l {
		spoil(c.Account.Free, amount(-7, -7))
		spoil(c.Lane.Bids, api.Order{Id: -7})
		spoil(c.Lane.Asks, api.Order{Id: -7})
		spoil(c.Lane.Owed, api.Owed{Account: -7})
	}
	spoil(l, api.Cell{Version: -7})
}

// pieces spoil one list of a transaction each.
func pieces(t api.Trans) []func() {
	return []func(){
		func() { spoil(t.Peers, peer(lane(-7), -7)) },
		func() { spoil(t.Amounts, amount(-7, -7)) },
		func() { spoilCells(t.Cells) },
		func() { spoil(t.Answer.Amounts, amount(-7, -7)) },
		func() { spoil(t.Answer.Fills, api.Fill{Buyer: -7}) },
	}
}

func lists(t api.Trans) []any {
	return []any{t.Peers, t.Amounts, t.Cells, t.Answer.Amounts, t.Answer.Fills}
}

func spoilCoord(c api.Coord) {
	for _, t := range c.Trans {
		for _, spoils := range pieces(t) {
			spoils()
		}
	}
	spoil(c.Trans, api.Trans{State: -7})
}

// holdApart: a call's answer, made anew for each list of it, keeps all other lists where one is spoilt.
func holdApart(t *testing.T, call func() []api.Trans) {
	t.Helper()
	first := call()
	for i, x := range first {
		for j := range pieces(x) {
			all := call()
			pieces(all[i])[j]()
			for k, other := range all {
				for n, l := range lists(other) {
					if (k != i || n != j) && !same(l, lists(first[k])[n]) {
						t.Fatalf("R5: lists %d of %d and %d of %d of one answer share memory", j, i, n, k)
					}
				}
			}
		}
	}
}

// holdMessages: no two messages of one answer share anything, and none of them shares anything with the coordinator.
func holdMessages(t *testing.T, c api.Coord) {
	t.Helper()
	want := coord.Out(c)
	for i := range want {
		for _, cells := range []bool{false, true} {
			out := coord.Out(c)
			if cells {
				spoilCells(out[i].Cells)
			} else {
				spoilAnswer(out[i].Answer)
			}
			for j := range out {
				if j == i && cells {
					out[j].Cells = want[j].Cells
				} else if j == i {
					out[j].Answer = want[j].Answer
				}
			}
			if !same(out, want) {
				t.Fatalf("R5: two messages of one answer share memory: %s", brief(out))
			}
		}
	}
	if !same(coord.Out(c), want) {
		t.Fatalf("R5: Out shares memory with %s", brief(c))
	}
}

// TestMemory: what is answered shares nothing with what was handed in, and its lists share nothing.
func TestMemory(t *testing.T) {
	for seed := range int64(10) {
		r := rand.New(rand.NewSource(seed))
		h := newHub(t, 1)
		for step := range 80 {
			peers := somePeers(r)
			begin := func() api.Coord {
				c, _ := coord.Begin(h.c, name(1+step%6, 1+step/6), put, peers)
				return c
			}
			m := someMessage(r, h.c)
			hear := func() api.Coord {
				c, _, _ := coord.Hear(h.c, m)
				return c
			}
			ended := func() []api.Trans {
				c, x, _ := coord.Ended(h.c)
				return append(c.Trans, x)
			}
			was, mine, given := clone(h.c), m, slices.Clone(peers)
			mine.Cells, mine.Answer.Amounts, mine.Answer.Fills = cloneCells(m.Cells), slices.Clone(m.Answer.Amounts), slices.Clone(m.Answer.Fills)
			holdApart(t, func() []api.Trans { return begin().Trans })
			holdApart(t, func() []api.Trans { return hear().Trans })
			holdApart(t, ended)
			holdMessages(t, h.c)
			spoilCoord(begin())
			spoilCoord(hear())
			spoilCoord(api.Coord{Trans: ended()})
			if !same(h.c, was) || !same(m, mine) || !slices.Equal(peers, given) {
				t.Fatalf("R5: of %s: %s became %s", brief(m), brief(was), brief(h.c))
			}
			next := hear()
			if r.Intn(3) == 0 && len(h.c.Trans) < 5 {
				next = begin()
			}
			want := clone(next)
			spoilCells(m.Cells)
			spoilAnswer(m.Answer)
			spoil(peers, peer(lane(-7), -7))
			spoilCoord(h.c)
			if !same(next, want) {
				t.Fatalf("R5: %s was kept: %s", brief(mine), brief(next))
			}
			if h.c = next; len(next.Trans) == 0 {
				h.c = was
			}
			if r.Intn(4) == 0 {
				h.c, _, _ = coord.Ended(h.c)
			}
		}
	}
}
