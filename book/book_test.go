package book_test

import (
	"math"
	"slices"
	"testing"

	"rialto/api"
	"rialto/book"
)

// order and owed are written short: number, account, price, left; account, asset, n.
func order(id, account, price, left int) api.Order {
	return api.Order{Id: id, Account: account, Price: price, Left: left}
}

func owed(account, asset, n int) api.Owed { return api.Owed{Account: account, Asset: asset, N: n} }

// placed is an order that is to be placed.
type placed struct {
	account, side, price, n int
	now                     bool
}

// holdAll holds all calls of a book against the plain ones, and looks whether what was handed in is as it was.
func holdAll(t *testing.T, l api.Lane, o placed, account, id int) {
	t.Helper()
	was := clone(l)
	want := api.OK
	if !plainMayBe(l) {
		want = api.ErrBookForm
	}
	if e := book.Check(l); e != want {
		t.Fatalf("P13.1: Check(%s): %d, want %d", brief(l), e, want)
	}
	m, fills, n, e := book.Place(l, o.account, o.side, o.price, o.n, o.now)
	if pm, pf, pn, pe := plainPlace(l, o.account, o.side, o.price, o.n, o.now); !same(m, pm) || !slices.Equal(fills, pf) || n != pn || e != pe {
		t.Fatalf("P13.2: Place(%s, %v): %s, %s, %d, %d, want %s, %s, %d, %d", brief(l), o, brief(m), brief(fills), n, e, brief(pm), brief(pf), pn, pe)
	}
	m, n, e = book.Cancel(l, account, id)
	if pm, pn, pe := plainCancel(l, account, id); !same(m, pm) || n != pn || e != pe {
		t.Fatalf("P13.3: Cancel(%s, %d, %d): %s, %d, %d, want %s, %d, %d", brief(l), account, id, brief(m), n, e, brief(pm), pn, pe)
	}
	x, y, e := book.Holds(l)
	if px, py, pe := plainHolds(l); x != px || y != py || e != pe {
		t.Fatalf("P13.4: Holds(%s): %d, %d, %d, want %d, %d, %d", brief(l), x, y, e, px, py, pe)
	}
	if !same(l, was) {
		t.Fatalf("R5: %s became %s", brief(was), brief(l))
	}
}

// edges are numbers beside which something turns.
var edges = []int{math.MinInt, -1, 0, 1, 2, 3, 8, 9, 40, 41, 999999, 1000000, 1000001, 1000002, most - 1, most, most + 1, math.MaxInt}

// full is a book of which every part is as great as it may be.
func full() api.Lane {
	l := api.Lane{Next: mostNext}
	for i := range 40 {
		l.Bids = append(l.Bids, order(i+1, i%8+1, 500000-i/2, 1000000))
		l.Asks = append(l.Asks, order(999961+i, 8-i%8, 999981+i/2, 1000000))
	}
	for account := 1; account <= 8; account++ {
		l.Owed = append(l.Owed, owed(account, 0, most), owed(account, 1, most))
	}
	return l
}

func TestExamples(t *testing.T) {
	l, fills, id, e := book.Place(book.New(), 1, api.Sell, 10, 5, false)
	if e != api.OK || id != 1 || len(fills) != 0 || !same(l, api.Lane{Next: 2, Asks: []api.Order{order(1, 1, 10, 5)}}) {
		t.Fatalf("P13.2: %v, %v, %d, %d", l, fills, id, e)
	}
	m, fills, id, e := book.Place(l, 2, api.Buy, 12, 3, false)
	want := api.Lane{Next: 3, Asks: []api.Order{order(1, 1, 10, 2)}, Owed: []api.Owed{owed(1, 0, 30), owed(2, 0, 6), owed(2, 1, 3)}}
	if e != api.OK || id != 2 || !slices.Equal(fills, []api.Fill{{Buyer: 2, Seller: 1, Price: 10, N: 3}}) || !same(m, want) {
		t.Errorf("P13.2: %v, %v, %d, %d", m, fills, id, e)
	}
	m, fills, id, e = book.Place(l, 2, api.Buy, 12, 9, true)
	want = api.Lane{Next: 3, Owed: []api.Owed{owed(1, 0, 50), owed(2, 0, 58), owed(2, 1, 5)}}
	if e != api.OK || id != 2 || !slices.Equal(fills, []api.Fill{{Buyer: 2, Seller: 1, Price: 10, N: 5}}) || !same(m, want) {
		t.Errorf("P13.2: %v, %v, %d, %d", m, fills, id, e)
	}
}

func TestNew(t *testing.T) {
	if l := book.New(); !same(l, api.Lane{Next: 1}) || book.Check(l) != api.OK {
		t.Errorf("P13.1: %v", l)
	}
	if x, y, e := book.Holds(book.New()); x != 0 || y != 0 || e != api.OK {
		t.Errorf("P13.4: %d, %d, %d", x, y, e)
	}
}

func TestCheck(t *testing.T) {
	two := []api.Order{order(1, 1, 5, 1), order(2, 1, 5, 1)}
	for i, c := range []struct {
		l api.Lane
		e api.Errno
	}{
		{full(), api.OK},
		{api.Lane{}, api.ErrBookForm},
		{api.Lane{Next: 1, Call: true}, api.OK},
		{api.Lane{Next: mostNext}, api.OK},
		{api.Lane{Next: mostNext + 1}, api.ErrBookForm},
		{api.Lane{Next: 1, Bids: []api.Order{}, Asks: []api.Order{}, Owed: []api.Owed{}}, api.OK},
		{api.Lane{Next: 3, Bids: two}, api.OK},
		{api.Lane{Next: 3, Asks: two}, api.OK},
		{api.Lane{Next: 2, Bids: two}, api.ErrBookForm},
		{api.Lane{Next: 2, Asks: two}, api.ErrBookForm},
		{api.Lane{Next: 3, Bids: []api.Order{two[1], two[0]}}, api.ErrBookForm},
		{api.Lane{Next: 3, Asks: []api.Order{two[1], two[0]}}, api.ErrBookForm},
		{api.Lane{Next: 3, Bids: []api.Order{order(2, 1, 6, 1), order(1, 1, 5, 1)}}, api.OK},
		{api.Lane{Next: 3, Asks: []api.Order{order(2, 1, 6, 1), order(1, 1, 5, 1)}}, api.ErrBookForm},
		{api.Lane{Next: 3, Bids: []api.Order{order(1, 1, 5, 1), order(2, 1, 6, 1)}}, api.ErrBookForm},
		{api.Lane{Next: 3, Asks: []api.Order{order(2, 1, 5, 1), order(1, 1, 6, 1)}}, api.OK},
		// one number on one side, and on both
		{api.Lane{Next: 9, Bids: []api.Order{two[0], order(1, 1, 4, 1)}}, api.ErrBookForm},
		{api.Lane{Next: 9, Asks: []api.Order{two[0], order(1, 1, 6, 1)}}, api.ErrBookForm},
		{api.Lane{Next: 9, Bids: []api.Order{two[0]}, Asks: []api.Order{order(1, 2, 6, 1)}}, api.ErrBookForm},
		{api.Lane{Next: 9, Call: true, Bids: []api.Order{two[0]}, Asks: []api.Order{order(1, 2, 6, 1)}}, api.ErrBookForm},
		// bids and asks that would trade, called and not
		{api.Lane{Next: 9, Bids: []api.Order{two[0]}, Asks: []api.Order{order(2, 2, 6, 1)}}, api.OK},
		{api.Lane{Next: 9, Bids: []api.Order{two[0]}, Asks: []api.Order{order(2, 2, 5, 1)}}, api.ErrBookForm},
		{api.Lane{Next: 9, Bids: []api.Order{two[0]}, Asks: []api.Order{order(2, 2, 4, 1)}}, api.ErrBookForm},
		{api.Lane{Next: 9, Call: true, Bids: []api.Order{two[0]}, Asks: []api.Order{order(2, 2, 5, 1)}}, api.OK},
		{api.Lane{Next: 9, Call: true, Bids: []api.Order{two[0]}, Asks: []api.Order{order(2, 2, 1, 1)}}, api.OK},
		// what is owed
		{api.Lane{Next: 1, Owed: []api.Owed{owed(1, 1, 1), owed(2, 0, 1)}}, api.OK},
		{api.Lane{Next: 1, Owed: []api.Owed{owed(2, 0, 1), owed(1, 1, 1)}}, api.ErrBookForm},
		{api.Lane{Next: 1, Owed: []api.Owed{owed(1, 1, 1), owed(1, 0, 1)}}, api.ErrBookForm},
		{api.Lane{Next: 1, Owed: []api.Owed{owed(1, 1, 1), owed(1, 1, 1)}}, api.ErrBookForm},
	} {
		if e := book.Check(c.l); e != c.e {
			t.Errorf("P13.1: %d: Check(%s): %d, want %d", i, brief(c.l), e, c.e)
		}
		holdAll(t, c.l, placed{1, api.Buy, 5, 1, false}, 1, 1)
	}
}

// TestFields turns every number of a full book to every edge, first, in the middle and last.
func TestFields(t *testing.T) {
	for _, call := range []bool{false, true} {
		for _, n := range edges {
			for _, at := range []int{0, 7, 15} {
				for field := range 14 {
					l := full()
					l.Call = call
					bid, ask, debt := &l.Bids[at], &l.Asks[39-at], &l.Owed[at]
					*[]*int{&l.Next, &bid.Id, &bid.Account, &bid.Price, &bid.Left, &ask.Id, &ask.Account, &ask.Price, &ask.Left,
						&debt.Account, &debt.Asset, &debt.N, &l.Bids[39].Id, &l.Asks[0].Price}[field] = n
					holdAll(t, l, placed{1, api.Buy, 5, 1, false}, 1, 1)
				}
			}
		}
	}
}

func TestSizes(t *testing.T) {
	for _, side := range []int{api.Buy, api.Sell} {
		for _, n := range []int{0, 1, 39, 40, 41, 100} {
			l := api.Lane{Next: 1000}
			for i := range n {
				if side == api.Buy {
					l.Bids = append(l.Bids, order(i+1, 1, 5, 1))
				} else {
					l.Asks = append(l.Asks, order(i+1, 1, 5, 1))
				}
			}
			want := api.OK
			if n > 40 {
				want = api.ErrBookForm
			}
			if e := book.Check(l); e != want {
				t.Errorf("P13.1: %d orders: %d", n, e)
			}
			for _, o := range []placed{{1, 1, 5, 1, false}, {1, 2, 5, 1, false}, {1, 1, 5, 1, true}, {1, 2, 5, 1, true}, {1, 1, 4, 1, true}, {1, 2, 6, 1, true}} {
				holdAll(t, l, o, 1, n)
			}
		}
	}
}

func TestManyOwed(t *testing.T) {
	l := book.New()
	for i := range 100000 {
		l.Owed = append(l.Owed, owed(i%8+1, 0, 1))
	}
	if e := book.Check(l); e != api.ErrBookForm {
		t.Errorf("P13.1: %d", e)
	}
}

// TestArguments asks every edge of every argument of Place, and of Cancel.
func TestArguments(t *testing.T) {
	l := api.Lane{Next: 9, Bids: []api.Order{order(1, 1, 5, 3), order(8, 8, 5, 3)}, Asks: []api.Order{order(3, 2, 6, 3), order(2, 8, 7, 3)}, Owed: []api.Owed{owed(3, 1, 7)}}
	for _, now := range []bool{false, true} {
		for _, n := range edges {
			for _, o := range []placed{{n, 1, 7, 4, now}, {n, 2, 5, 4, now}, {1, n, 7, 4, now}, {1, 1, n, 4, now}, {1, 2, n, 4, now}, {1, 1, 7, n, now}, {1, 2, 5, n, now}} {
				holdAll(t, l, o, n, 8)
				called := clone(l)
				called.Call = true
				holdAll(t, called, o, 8, n)
			}
		}
	}
	for account := range 10 {
		for id := range 10 {
			holdAll(t, l, placed{1, 1, 5, 1, false}, account, id)
		}
	}
}

// TestErrorOrder lets several errors apply: the one that is named first is the answer.
func TestErrorOrder(t *testing.T) {
	crowded := full()
	crowded.Call = true
	strange := full()
	strange.Call, strange.Next = true, mostNext+1
	for i, c := range []struct {
		l       api.Lane
		account int
		now     bool
		e       api.Errno
	}{
		{strange, 0, true, api.ErrBookForm},
		{crowded, 0, true, api.ErrArg},
		{crowded, 1, true, api.ErrBookCall},
		{crowded, 1, false, api.ErrBookFull},
	} {
		m, fills, id, e := book.Place(c.l, c.account, api.Buy, 1, 1, c.now)
		if e != c.e || !same(m, api.Lane{}) || len(fills) != 0 || id != 0 {
			t.Errorf("R2, R3: %d: %s, %v, %d, %d, want %d", i, brief(m), fills, id, e, c.e)
		}
	}
	if m, n, e := book.Cancel(strange, 9, 1); e != api.ErrBookForm || !same(m, api.Lane{}) || n != 0 {
		t.Errorf("P13.3: %v, %d, %d", m, n, e)
	}
	if m, n, e := book.Cancel(full(), 2, 1); e != api.ErrBookNone || !same(m, api.Lane{}) || n != 0 {
		t.Errorf("P13.3: %v, %d, %d", m, n, e)
	}
	if m, n, e := book.Cancel(full(), 1, 1); e != api.ErrBookFull || !same(m, api.Lane{}) || n != 0 {
		t.Errorf("P13.3: %v, %d, %d", m, n, e)
	}
	if x, y, e := book.Holds(strange); e != api.ErrBookForm || x != 0 || y != 0 {
		t.Errorf("P13.4: %d, %d, %d", x, y, e)
	}
}

// TestNumbers lets a book come to its last number, which the next order has not.
func TestNumbers(t *testing.T) {
	l := api.Lane{Next: mostNext - 1}
	l, _, id, e := book.Place(l, 1, api.Buy, 1, 1, false)
	if e != api.OK || id != 1000000 || l.Next != mostNext || book.Check(l) != api.OK {
		t.Fatalf("P13.2: %v, %d, %d", l, id, e)
	}
	for _, side := range []int{api.Buy, api.Sell} {
		if _, _, _, e := book.Place(l, 1, side, 1, 1, true); e != api.ErrBookFull {
			t.Errorf("P13.2: side %d: %d", side, e)
		}
	}
	if m, n, e := book.Cancel(l, 1, 1000000); e != api.OK || n != 1 || m.Next != mostNext {
		t.Errorf("P13.3: %v, %d, %d", m, n, e)
	}
}

// TestFullSide: a side that is full takes no order, even one of which nothing would stay; the other side does.
func TestFullSide(t *testing.T) {
	l := full()
	l.Next, l.Owed, l.Asks = 1000, nil, []api.Order{order(999, 2, 600000, 5)}
	for _, now := range []bool{false, true} {
		if _, _, _, e := book.Place(l, 1, api.Buy, 600000, 1, now); e != api.ErrBookFull {
			t.Errorf("P13.2: %d", e)
		}
		if _, fills, _, e := book.Place(l, 1, api.Sell, 500000, 1, now); e != api.OK || len(fills) != 1 {
			t.Errorf("P13.2: %v, %d", fills, e)
		}
	}
	m, fills, _, e := book.Place(l, 1, api.Sell, 1, 1000000, false)
	if e != api.OK || len(fills) != 1 || len(m.Bids) != 39 {
		t.Errorf("P13.2: %v, %d", fills, e)
	}
	l.Bids = l.Bids[1:]
	if m, _, _, e := book.Place(l, 1, api.Buy, 1, 1, false); e != api.OK || len(m.Bids) != 40 || m.Bids[39].Id != 1000 {
		t.Errorf("P13.2: %s, %d", brief(m), e)
	}
}

// TestOver brings each that may be owed to just 2^53, and to one more.
func TestOver(t *testing.T) {
	asks := []api.Order{order(1, 2, 10, 3), order(2, 3, 11, 4)}
	bids := []api.Order{order(1, 2, 10, 3), order(2, 3, 9, 4)}
	for i, c := range []struct {
		l              api.Lane
		o              placed
		account, asset int
		n              int // what comes to be owed
	}{
		{api.Lane{Asks: asks}, placed{1, api.Buy, 12, 5, false}, 1, 1, 5},
		{api.Lane{Asks: asks}, placed{1, api.Buy, 12, 5, false}, 1, 0, 8},
		{api.Lane{Asks: asks}, placed{1, api.Buy, 12, 5, false}, 2, 0, 30},
		{api.Lane{Asks: asks}, placed{1, api.Buy, 12, 5, false}, 3, 0, 22},
		{api.Lane{Asks: asks}, placed{1, api.Buy, 10, 5, true}, 1, 0, 20},
		{api.Lane{Asks: asks}, placed{1, api.Buy, 9, 5, true}, 1, 0, 45},
		{api.Lane{Asks: asks}, placed{2, api.Buy, 12, 5, false}, 2, 0, 38},
		{api.Lane{Bids: bids}, placed{1, api.Sell, 9, 5, false}, 1, 0, 48},
		{api.Lane{Bids: bids}, placed{1, api.Sell, 9, 5, false}, 2, 1, 3},
		{api.Lane{Bids: bids}, placed{1, api.Sell, 9, 5, false}, 3, 1, 2},
		{api.Lane{Bids: bids}, placed{1, api.Sell, 10, 5, true}, 1, 1, 2},
		{api.Lane{Bids: bids}, placed{1, api.Sell, 11, 5, true}, 1, 1, 5},
	} {
		c.l.Next = 3
		c.l.Owed = []api.Owed{owed(c.account, c.asset, most-c.n)}
		m, _, _, e := book.Place(c.l, c.o.account, c.o.side, c.o.price, c.o.n, c.o.now)
		if e != api.OK || !slices.Contains(m.Owed, owed(c.account, c.asset, most)) {
			t.Errorf("P13.2: %d: %v, %d", i, m, e)
		}
		c.l.Owed[0].N++
		if m, fills, id, e := book.Place(c.l, c.o.account, c.o.side, c.o.price, c.o.n, c.o.now); e != api.ErrBookFull || !same(m, api.Lane{}) || len(fills) != 0 || id != 0 {
			t.Errorf("P13.2: %d: %v, %v, %d, %d", i, m, fills, id, e)
		}
	}
	// what rests is owed to nobody
	l := api.Lane{Next: 1, Owed: []api.Owed{owed(1, 0, most), owed(1, 1, most)}}
	for _, side := range []int{api.Buy, api.Sell} {
		if _, _, _, e := book.Place(l, 1, side, 5, 5, false); e != api.OK {
			t.Errorf("P13.2: side %d: %d", side, e)
		}
	}
}

func TestCancelOver(t *testing.T) {
	l := api.Lane{Next: 3, Bids: []api.Order{order(1, 1, 7, 3)}, Asks: []api.Order{order(2, 1, 8, 3)}}
	for id, c := range map[int]api.Owed{1: owed(1, 0, 21), 2: owed(1, 1, 3)} {
		l.Owed = []api.Owed{owed(1, c.Asset, most-c.N)}
		if m, n, e := book.Cancel(l, 1, id); e != api.OK || n != 3 || !slices.Equal(m.Owed, []api.Owed{owed(1, c.Asset, most)}) {
			t.Errorf("P13.3: %v, %d, %d", m, n, e)
		}
		l.Owed[0].N++
		if m, n, e := book.Cancel(l, 1, id); e != api.ErrBookFull || n != 0 || !same(m, api.Lane{}) {
			t.Errorf("P13.3: %v, %d, %d", m, n, e)
		}
	}
}

// TestOrderOfTrades: by price, of one price by time, as far as the price goes; and what is left rests.
func TestOrderOfTrades(t *testing.T) {
	l := book.New()
	for _, o := range []placed{{1, 2, 7, 2, false}, {2, 2, 6, 2, false}, {3, 2, 7, 2, false}, {4, 2, 6, 2, false}, {5, 2, 9, 2, false}} {
		l, _, _, _ = book.Place(l, o.account, o.side, o.price, o.n, o.now)
	}
	m, fills, id, e := book.Place(l, 8, api.Buy, 8, 9, false)
	want := []api.Fill{{Buyer: 8, Seller: 2, Price: 6, N: 2}, {Buyer: 8, Seller: 4, Price: 6, N: 2}, {Buyer: 8, Seller: 1, Price: 7, N: 2}, {Buyer: 8, Seller: 3, Price: 7, N: 2}}
	if e != api.OK || id != 6 || !slices.Equal(fills, want) {
		t.Errorf("P13.2: %v, %d, %d", fills, id, e)
	}
	if !slices.Equal(m.Bids, []api.Order{order(6, 8, 8, 1)}) || !slices.Equal(m.Asks, []api.Order{order(5, 5, 9, 2)}) {
		t.Errorf("P13.2: %v", m)
	}
	m, fills, _, e = book.Place(m, 6, api.Sell, 8, 3, false)
	if e != api.OK || !slices.Equal(fills, []api.Fill{{Buyer: 8, Seller: 6, Price: 8, N: 1}}) || len(m.Bids) != 0 || !slices.Equal(m.Asks, []api.Order{order(7, 6, 8, 2), order(5, 5, 9, 2)}) {
		t.Errorf("P13.2: %v, %v, %d", m, fills, e)
	}
	// with itself
	m, fills, _, e = book.Place(m, 6, api.Buy, 9, 2, true)
	if e != api.OK || !slices.Equal(fills, []api.Fill{{Buyer: 6, Seller: 6, Price: 8, N: 2}}) || !slices.Contains(m.Owed, owed(6, 0, 8+16+2)) || !slices.Contains(m.Owed, owed(6, 1, 2)) {
		t.Errorf("P13.2: %v, %v, %d", m, fills, e)
	}
}
