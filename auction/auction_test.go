package auction_test

import (
	"math/rand"
	"slices"
	"testing"

	"rialto/api"
	"rialto/auction"
	"rialto/book"
)

func owed(account, asset, n int) api.Owed { return api.Owed{Account: account, Asset: asset, N: n} }

// orders are written as pairs, a price and how much is left: numbers from first on, accounts one behind the other.
func orders(first int, pairs ...int) []api.Order {
	var l []api.Order
	for i := 0; i < len(pairs); i += 2 {
		l = append(l, api.Order{Id: first + i/2, Account: (first+i/2-1)%8 + 1, Price: pairs[i], Left: pairs[i+1]})
	}
	return l
}

// called is a book that gathers: the bids have numbers from 1 on, the asks from 41 on (accounts from 1 on, both).
func called(bids, asks []int) api.Lane {
	return api.Lane{Call: true, Next: 100, Bids: orders(1, bids...), Asks: orders(41, asks...)}
}

// hold holds all calls of a book against the plain ones, and looks whether what was handed in is as it was.
func hold(t *testing.T, l api.Lane) {
	t.Helper()
	was := clone(l)
	m, e := auction.Call(l)
	if pm, pe := plainCall(l); !same(m, pm) || e != pe {
		t.Fatalf("P14.1: Call(%s): %s, %d, want %s, %d", brief(l), brief(m), e, brief(pm), pe)
	}
	price, volume, e := auction.Price(l)
	if pp, pv, pe := plainPrice(l); price != pp || volume != pv || e != pe {
		t.Fatalf("P14.2: Price(%s): %d, %d, %d, want %d, %d, %d", brief(l), price, volume, e, pp, pv, pe)
	}
	m, fills, e := auction.Uncross(l)
	if pm, pf, pe := plainUncross(l); !same(m, pm) || !slices.Equal(fills, pf) || e != pe {
		t.Fatalf("P14.3: Uncross(%s): %s, %s, %d, want %s, %s, %d", brief(l), brief(m), brief(fills), e, brief(pm), brief(pf), pe)
	}
	if !same(l, was) {
		t.Fatalf("R5: %s became %s", brief(was), brief(l))
	}
	if e == api.OK {
		follows(t, l, m, fills, price, volume)
	}
}

// follows looks for what P14.4 says.
func follows(t *testing.T, l, m api.Lane, fills []api.Fill, price, volume int) {
	t.Helper()
	x, y, _ := book.Holds(l)
	u, v, e := book.Holds(m)
	if e != api.OK || u != x || v != y || m.Call {
		t.Fatalf("P14.4: %s held %d, %d, and %s holds %d, %d, %d", brief(l), x, y, brief(m), u, v, e)
	}
	sum := 0
	for _, f := range fills {
		if f.Price != price {
			t.Fatalf("P14.4: %v, and the price is %d", f, price)
		}
		sum += f.N
	}
	if sum != volume {
		t.Fatalf("P14.3: %d traded, and the volume is %d", sum, volume)
	}
	worse(t, l.Bids, m.Bids, func(own int) bool { return own < price })
	worse(t, l.Asks, m.Asks, func(own int) bool { return own > price })
}

// worse looks whether an order lost something at a price that is worse than its own.
func worse(t *testing.T, ahead, behind []api.Order, bad func(own int) bool) {
	t.Helper()
	for _, o := range ahead {
		if bad(o.Price) && !slices.Contains(behind, o) {
			t.Fatalf("P14.4: %v traded at a price that is worse than its own", o)
		}
	}
}

func TestExample(t *testing.T) {
	l := called([]int{12, 5, 10, 5}, []int{9, 4, 11, 4})
	if p, v, e := auction.Price(l); p != 11 || v != 5 || e != api.OK {
		t.Errorf("P14.2: %d, %d, %d", p, v, e)
	}
	m, fills, e := auction.Uncross(l)
	if e != api.OK || !slices.Equal(fills, []api.Fill{{Buyer: 1, Seller: 1, Price: 11, N: 4}, {Buyer: 1, Seller: 2, Price: 11, N: 1}}) {
		t.Errorf("P14.3: %v, %d", fills, e)
	}
	want := api.Lane{Next: 100, Bids: orders(2, 10, 5), Asks: orders(42, 11, 3), Owed: []api.Owed{owed(1, 0, 49), owed(1, 1, 5), owed(2, 0, 11)}}
	if !same(m, want) {
		t.Errorf("P14.3: %v", m)
	}
}

func TestPrice(t *testing.T) {
	for i, c := range []struct {
		bids, asks    []int
		price, volume int
	}{
		{nil, nil, 0, 0},
		{[]int{5, 1}, nil, 0, 0},
		{nil, []int{5, 1}, 0, 0},
		{[]int{5, 9}, []int{6, 9}, 0, 0},
		{[]int{5, 9}, []int{5, 9}, 5, 9},
		{[]int{5, 9}, []int{5, 7}, 5, 7},
		{[]int{9, 9}, []int{5, 7}, 5, 7}, // volumes and rests alike: the lowest
		{[]int{9, 7}, []int{5, 9}, 5, 7}, // the other way round
		{[]int{1000000, 1000000}, []int{1, 1000000}, 1, 1000000},
		{[]int{9, 5, 7, 4}, []int{5, 6, 8, 9}, 5, 6}, // at 5 and 7: 6 and 3; at 8 and 9: 5 of 15
		{[]int{9, 5, 7, 1}, []int{5, 9}, 5, 6},       // at 5 and 7: 6 and 3; at 9: 5 and 4
		{[]int{9, 5, 7, 1}, []int{5, 5, 8, 3}, 5, 5}, // at 5 and 7: 5 and 1; at 8 and 9: 5 and 3
		{[]int{10, 4, 9, 4, 8, 4}, []int{8, 3, 9, 3, 10, 3}, 9, 6},
		{[]int{10, 5}, []int{6, 5, 8, 1}, 6, 5},  // the least rest is at the lower price
		{[]int{10, 5, 6, 1}, []int{6, 5}, 10, 5}, // the least rest is at the higher price
	} {
		l := called(c.bids, c.asks)
		p, v, e := auction.Price(l)
		pp, pv, _ := plainPrice(l)
		if e != api.OK || p != pp || v != pv {
			t.Errorf("P14.2: %d: %d, %d, %d, want %d, %d", i, p, v, e, pp, pv)
		}
		if p != c.price || v != c.volume {
			t.Errorf("P14.2: %d: %d, %d, want %d, %d", i, p, v, c.price, c.volume)
		}
		hold(t, l)
	}
}

func TestCall(t *testing.T) {
	l := api.Lane{Next: 100, Bids: orders(1, 5, 3), Asks: orders(41, 6, 3), Owed: []api.Owed{owed(1, 1, 7)}}
	hold(t, l)
	m, e := auction.Call(l)
	if e != api.OK || !m.Call {
		t.Fatalf("P14.1: %v, %d", m, e)
	}
	if again, e := auction.Call(m); e != api.ErrAuctionCall || !same(again, api.Lane{}) {
		t.Errorf("P14.1: %v, %d", again, e)
	}
	// without trades all but Call comes back
	if back, fills, e := auction.Uncross(m); e != api.OK || len(fills) != 0 || !same(back, l) {
		t.Errorf("P14.3: %v, %v, %d", back, fills, e)
	}
	for _, e := range uncalled(l) {
		if e != api.ErrAuctionCall {
			t.Errorf("P14.2, P14.3: %d", e)
		}
	}
	hold(t, m)
	hold(t, book.New())
	hold(t, api.Lane{Call: true, Next: 1})
}

func uncalled(l api.Lane) []api.Errno {
	_, _, a := auction.Price(l)
	_, _, b := auction.Uncross(l)
	return []api.Errno{a, b}
}

// TestStrange asks of books that may not be, called and not: that is named first.
func TestStrange(t *testing.T) {
	for i, turn := range []func(l *api.Lane){
		func(l *api.Lane) { l.Next = 0 },
		func(l *api.Lane) { l.Next = 1000002 },
		func(l *api.Lane) { l.Next = 42 },
		func(l *api.Lane) { l.Bids[0].Left = 0 },
		func(l *api.Lane) { l.Bids[1].Price = 1000001 },
		func(l *api.Lane) { l.Asks[1].Price = 1 },
		func(l *api.Lane) { l.Asks[0].Left = -1 },
		func(l *api.Lane) { l.Asks[0].Id = 1 },
		func(l *api.Lane) { l.Asks[0].Account = 9 },
		func(l *api.Lane) { l.Owed[0].N = most + 1 },
		func(l *api.Lane) { l.Owed[0].Asset = 2 },
		func(l *api.Lane) { l.Owed[0].Account = -1 },
		func(l *api.Lane) { l.Owed = append(l.Owed, l.Owed[0]) },
		func(l *api.Lane) { l.Bids = orders(1, slices.Repeat([]int{9, 1}, 41)...) },
	} {
		for _, call := range []bool{false, true} {
			l := called([]int{12, 5, 10, 5}, []int{13, 4, 14, 4})
			l.Owed = []api.Owed{owed(8, 1, 1)}
			l.Call = call
			hold(t, l)
			turn(&l)
			for _, e := range append(uncalled(l), second(auction.Call(l))) {
				if e != api.ErrBookForm {
					t.Errorf("P14.1, P14.2, P14.3: %d: %d", i, e)
				}
			}
			hold(t, l)
		}
	}
}

func second(_ api.Lane, e api.Errno) api.Errno { return e }

// TestOver brings each that may be owed to just 2^53, and to one more.
func TestOver(t *testing.T) {
	for i, o := range []api.Owed{owed(1, 1, 5), owed(1, 0, 5), owed(3, 0, 44), owed(4, 0, 11)} {
		l := called([]int{12, 5, 10, 5}, []int{9, 4, 11, 4})
		l.Asks[0].Account, l.Asks[1].Account = 3, 4
		l.Owed = []api.Owed{owed(o.Account, o.Asset, most-o.N)}
		if m, _, e := auction.Uncross(l); e != api.OK || !slices.Contains(m.Owed, owed(o.Account, o.Asset, most)) {
			t.Errorf("P14.3: %d: %v, %d", i, m, e)
		}
		hold(t, l)
		l.Owed[0].N++
		if m, fills, e := auction.Uncross(l); e != api.ErrBookFull || !same(m, api.Lane{}) || len(fills) != 0 {
			t.Errorf("P14.3: %d: %v, %v, %d", i, m, fills, e)
		}
		hold(t, l)
		// not called, that is told first
		l.Call, l.Bids = false, nil
		if _, _, e := auction.Uncross(l); e != api.ErrAuctionCall {
			t.Errorf("P14.3: %d: %d", i, e)
		}
	}
	// one account on both sides of many trades, which only all together are over
	l := called(slices.Repeat([]int{3, 1}, 8), slices.Repeat([]int{2, 1}, 8))
	for i := range 8 {
		l.Bids[i].Account, l.Asks[i].Account = 2, 2
	}
	for _, n := range []int{most - 24, most - 23} {
		l.Owed = []api.Owed{owed(2, 0, n)}
		hold(t, l)
	}
	if _, _, e := auction.Uncross(l); e != api.ErrBookFull {
		t.Errorf("P14.3: %d", e)
	}
}

// TestGreat clears a book of which every part is as great as it may be.
func TestGreat(t *testing.T) {
	l := called(slices.Repeat([]int{1000000, 1000000}, 40), slices.Repeat([]int{1, 1000000}, 40))
	hold(t, l)
	m, fills, e := auction.Uncross(l)
	if e != api.OK || len(fills) != 40 || len(m.Bids)+len(m.Asks) != 0 || m.Owed[0] != owed(1, 0, 5*1000000*(999999+1)) {
		t.Errorf("P14.3: %s, %d fills, %d", brief(m), len(fills), e)
	}
}

// gathered is a called book out of a run.
func gathered(r *rand.Rand, accounts, prices, sizes int) api.Lane {
	l := api.Lane{Call: true, Next: 1}
	for range r.Intn(90) {
		if m, _, _, e := book.Place(l, 1+r.Intn(accounts), 1+r.Intn(2), 1+r.Intn(prices), 1+r.Intn(sizes), false); e == api.OK {
			l = m
		}
	}
	for account := 1; account <= 8; account++ {
		for asset := range 2 {
			switch r.Intn(40) {
			case 0, 1, 2:
				l.Owed = append(l.Owed, owed(account, asset, 1+r.Intn(99)))
			case 3:
				l.Owed = append(l.Owed, owed(account, asset, most-r.Intn(5*prices*sizes)))
			}
		}
	}
	return l
}

func TestRandom(t *testing.T) {
	times := map[api.Errno]int{}
	for seed := range int64(3000) {
		r := rand.New(rand.NewSource(seed))
		s := [][3]int{{2, 4, 3}, {8, 30, 20}, {8, 1000000, 1000000}, {3, 1000, 3}, {8, 6, 1}}[seed%5]
		l := gathered(r, s[0], s[1], s[2])
		hold(t, l)
		_, fills, e := auction.Uncross(l)
		if len(fills) > 0 || e != api.OK {
			times[e]++
		}
	}
	if times[api.OK] < 1000 || times[api.ErrBookFull] < 50 {
		t.Errorf("too few of them tell something: %v", times)
	}
}

// TestRuns: a book is called, gathers, is uncrossed and deals on; it stays one that may be.
func TestRuns(t *testing.T) {
	for seed := range int64(60) {
		r := rand.New(rand.NewSource(seed))
		l := book.New()
		for range 120 {
			m, e := api.Lane{}, api.OK
			switch r.Intn(12) {
			case 0:
				m, e = auction.Call(l)
			case 1:
				m, _, e = auction.Uncross(l)
			default:
				m, _, _, e = book.Place(l, 1+r.Intn(8), 1+r.Intn(2), 1+r.Intn(9), 1+r.Intn(9), r.Intn(6) == 0)
			}
			hold(t, l)
			if e == api.OK {
				l = m
			}
			if book.Check(l) != api.OK {
				t.Fatalf("P14.4: %s", brief(l))
			}
		}
	}
}

// spoil fills all that an answer reaches, spare room too, with strange numbers.
func spoil(l api.Lane, fills []api.Fill) {
	for _, side := range [][]api.Order{l.Bids, l.Asks} {
		for i := range side[:cap(side)] {
			side[:cap(side)][i] = api.Order{Id: -1, Account: -1, Price: -1, Left: -1}
		}
	}
	for i := range l.Owed[:cap(l.Owed)] {
		l.Owed[:cap(l.Owed)][i] = owed(-1, -1, -1)
	}
	for i := range fills[:cap(fills)] {
		fills[:cap(fills)][i] = api.Fill{Buyer: -1, Seller: -1, Price: -1, N: -1}
	}
}

// roomy is a book whose lists have spare room, all of it filled.
func roomy(l api.Lane) api.Lane {
	seven := api.Order{Id: 7, Account: 7, Price: 7, Left: 7}
	l.Bids = append(slices.Clip(slices.Clone(l.Bids)), seven, seven, seven)[:len(l.Bids)]
	l.Asks = append(slices.Clip(slices.Clone(l.Asks)), seven, seven, seven)[:len(l.Asks)]
	l.Owed = append(slices.Clip(slices.Clone(l.Owed)), owed(7, 7, 7), owed(7, 7, 7))[:len(l.Owed)]
	return l
}

func whole(l api.Lane) api.Lane {
	l.Bids, l.Asks, l.Owed = l.Bids[:cap(l.Bids)], l.Asks[:cap(l.Asks)], l.Owed[:cap(l.Owed)]
	return l
}

// TestMemory: what is answered shares nothing with what was handed in, and its lists share nothing.
func TestMemory(t *testing.T) {
	for seed := range int64(100) {
		r := rand.New(rand.NewSource(seed))
		l := roomy(gathered(r, 8, 9, 5))
		was := clone(whole(l))
		m, fills, _ := auction.Uncross(l)
		asks, debts, trades := slices.Clone(m.Asks), slices.Clone(m.Owed), slices.Clone(fills)
		spoil(api.Lane{Bids: m.Bids}, nil)
		if !slices.Equal(m.Asks, asks) || !slices.Equal(m.Owed, debts) || !slices.Equal(fills, trades) {
			t.Fatalf("R5: two lists of one answer share memory")
		}
		spoil(m, fills)
		if !same(whole(l), was) {
			t.Fatalf("R5: Uncross shares %s", brief(was))
		}
		m, _, e := auction.Uncross(l)
		if e != api.OK {
			continue
		}
		m = roomy(m)
		was = clone(whole(m))
		n, _ := auction.Call(m)
		spoil(n, nil)
		if !same(whole(m), was) {
			t.Fatalf("R5: Call shares %s", brief(was))
		}
	}
}
