package book_test

import (
	"math/rand"
	"slices"
	"testing"

	"rialto/api"
	"rialto/book"
)

// scale is how great a run's numbers are.
type scale struct{ accounts, prices, sizes int }

func (s scale) order(r *rand.Rand) placed {
	o := placed{1 + r.Intn(s.accounts), 1 + r.Intn(2), 1 + r.Intn(s.prices), 1 + r.Intn(s.sizes), r.Intn(5) == 0}
	if r.Intn(20) == 0 { // one that may not be
		n := edges[r.Intn(len(edges))]
		*[]*int{&o.account, &o.side, &o.price, &o.n}[r.Intn(4)] = n
	}
	return o
}

// holdGain looks whether a book holds as much more as was brought into it, and may be.
func holdGain(t *testing.T, l, m api.Lane, money, goods int) {
	t.Helper()
	x, y, e := book.Holds(l)
	u, v, f := book.Holds(m)
	if e != api.OK || f != api.OK || u-x != money || v-y != goods || book.Check(m) != api.OK {
		t.Fatalf("P13.5: %s holds %d, %d, %s %d, %d: not %d, %d more", brief(l), x, y, brief(m), u, v, money, goods)
	}
}

// step does one thing to a book, and holds it against the plain one.
func step(t *testing.T, r *rand.Rand, l api.Lane, s scale) api.Lane {
	t.Helper()
	o := s.order(r)
	account, id := 1+r.Intn(s.accounts), r.Intn(l.Next+2)
	if all := slices.Concat(l.Bids, l.Asks); len(all) > 0 && r.Intn(3) > 0 {
		one := all[r.Intn(len(all))]
		account, id = one.Account, one.Id
	}
	holdAll(t, l, o, account, id)
	if r.Intn(4) == 0 {
		m, _, e := book.Cancel(l, account, id)
		if e != api.OK {
			return l
		}
		holdGain(t, l, m, 0, 0)
		return m
	}
	m, _, _, e := book.Place(l, o.account, o.side, o.price, o.n, o.now)
	if e != api.OK {
		return l
	}
	if o.side == api.Buy {
		holdGain(t, l, m, o.price*o.n, 0)
	} else {
		holdGain(t, l, m, 0, o.n)
	}
	return m
}

func TestRuns(t *testing.T) {
	most := 0
	for seed := range int64(120) {
		r := rand.New(rand.NewSource(seed))
		s := []scale{{2, 4, 3}, {8, 30, 20}, {8, 1000000, 1000000}, {3, 1000, 3}}[seed%4]
		l := book.New()
		l.Call = seed%5 == 4
		for range 150 {
			l = step(t, r, l, s)
			most = max(most, len(l.Bids), len(l.Asks))
		}
	}
	if most != 40 {
		t.Errorf("no side was ever full: %d", most)
	}
}

// TestRandomBooks takes books out of runs, and turns something in them.
func TestRandomBooks(t *testing.T) {
	for seed := range int64(300) {
		r := rand.New(rand.NewSource(seed))
		s := scale{4, 8, 5}
		l := book.New()
		l.Call = seed%3 == 0
		for range 30 {
			o := s.order(r)
			if m, _, _, e := book.Place(l, o.account, o.side, o.price, o.n, o.now); e == api.OK {
				l = m
			}
		}
		for range 30 {
			m := clone(l)
			for range 1 + r.Intn(2) {
				turn(r, &m)
			}
			holdAll(t, m, s.order(r), 1+r.Intn(4), r.Intn(30))
		}
	}
}

func turn(r *rand.Rand, l *api.Lane) {
	small := r.Intn(12) - 1
	orders := l.Bids
	if r.Intn(2) == 0 {
		orders = l.Asks
	}
	switch k := r.Intn(8); {
	case k == 0:
		l.Next = small
	case k == 1:
		l.Call = !l.Call
	case k == 2 && len(l.Owed) > 0:
		o := &l.Owed[r.Intn(len(l.Owed))]
		*[]*int{&o.Account, &o.Asset, &o.N}[r.Intn(3)] = small
	case k == 3 && len(l.Owed) > 0:
		o := &l.Owed[r.Intn(len(l.Owed))]
		o.N = 1<<53 - r.Intn(10)
	case k == 4 && len(orders) > 1:
		a, b := r.Intn(len(orders)), r.Intn(len(orders))
		orders[a], orders[b] = orders[b], orders[a]
	case len(orders) > 0:
		o := &orders[r.Intn(len(orders))]
		*[]*int{&o.Id, &o.Account, &o.Price, &o.Left}[r.Intn(4)] = small
	}
}

// overwrite fills all that answers reach, spare room too, with strange numbers.
func overwrite(l api.Lane, fills []api.Fill) {
	for _, orders := range [][]api.Order{l.Bids, l.Asks} {
		for i := range orders[:cap(orders)] {
			orders[:cap(orders)][i] = order(-1, -1, -1, -1)
		}
	}
	for i := range l.Owed[:cap(l.Owed)] {
		l.Owed[:cap(l.Owed)][i] = owed(-1, -1, -1)
	}
	for i := range fills[:cap(fills)] {
		fills[:cap(fills)][i] = api.Fill{Buyer: -1, Seller: -1, Price: -1, N: -1}
	}
}

// roomy is a book whose lists have spare room, all of it filled.
func roomy(l api.Lane) api.Lane {
	m := clone(l)
	m.Bids = append(append(make([]api.Order, 0, len(l.Bids)+3), l.Bids...), order(7, 7, 7, 7), order(7, 7, 7, 7), order(7, 7, 7, 7))[:len(l.Bids)]
	m.Asks = append(append(make([]api.Order, 0, len(l.Asks)+3), l.Asks...), order(7, 7, 7, 7), order(7, 7, 7, 7), order(7, 7, 7, 7))[:len(l.Asks)]
	m.Owed = append(append(make([]api.Owed, 0, len(l.Owed)+3), l.Owed...), owed(7, 7, 7), owed(7, 7, 7), owed(7, 7, 7))[:len(l.Owed)]
	return m
}

func whole(l api.Lane) api.Lane {
	l.Bids, l.Asks, l.Owed = l.Bids[:cap(l.Bids)], l.Asks[:cap(l.Asks)], l.Owed[:cap(l.Owed)]
	return l
}

// TestMemory: what is answered shares nothing with what was handed in, nor with another answer, and its lists share nothing.
func TestMemory(t *testing.T) {
	for seed := range int64(60) {
		r := rand.New(rand.NewSource(seed))
		s := scale{3, 6, 4}
		l := book.New()
		l.Call = seed%4 == 0
		for range 20 {
			o := s.order(r)
			if m, _, _, e := book.Place(l, o.account, o.side, o.price, o.n, false); e == api.OK {
				l = m
			}
		}
		l = roomy(l)
		was := clone(whole(l))
		o := s.order(r)
		m, fills, _, _ := book.Place(l, o.account, o.side, o.price, o.n, o.now)
		again, fillsAgain, _, _ := book.Place(l, o.account, o.side, o.price, o.n, o.now)
		shares(t, m, fills)
		overwrite(m, fills)
		if pm, pf, _, _ := plainPlace(l, o.account, o.side, o.price, o.n, o.now); !same(again, pm) || !slices.Equal(fillsAgain, pf) {
			t.Fatalf("R5: two answers of Place share memory")
		}
		if all := slices.Concat(l.Bids, l.Asks); len(all) > 0 {
			one := all[r.Intn(len(all))]
			m, _, _ := book.Cancel(l, one.Account, one.Id)
			shares(t, m, nil)
			overwrite(m, nil)
		}
		if !same(whole(l), was) {
			t.Fatalf("R5: what was handed in was changed: %s, was %s", brief(whole(l)), brief(was))
		}
	}
}

// shares looks whether a change of one list is to be seen in another one of the same answer.
func shares(t *testing.T, l api.Lane, fills []api.Fill) {
	t.Helper()
	asks, debts, trades := slices.Clone(l.Asks), slices.Clone(l.Owed), slices.Clone(fills)
	overwrite(api.Lane{Bids: l.Bids}, nil)
	if !slices.Equal(l.Asks, asks) || !slices.Equal(l.Owed, debts) || !slices.Equal(fills, trades) {
		t.Fatalf("R5: two lists of one answer share memory")
	}
}
