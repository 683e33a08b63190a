package clear_test

import (
	"fmt"
	"math"
	"math/rand"
	"slices"
	"testing"

	"rialto/api"
	"rialto/auction"
	"rialto/book"
	"rialto/clear"
)

const most = 1 << 53

func owed(account, asset, n int) api.Owed { return api.Owed{Account: account, Asset: asset, N: n} }

func fill(buyer, seller, price, n int) api.Fill {
	return api.Fill{Buyer: buyer, Seller: seller, Price: price, N: n}
}

func position(account, money, goods int) api.Position {
	return api.Position{Account: account, Money: money, Goods: goods}
}

func same(a, b api.Lane) bool {
	return a.Call == b.Call && a.Next == b.Next && slices.Equal(a.Bids, b.Bids) && slices.Equal(a.Asks, b.Asks) && slices.Equal(a.Owed, b.Owed)
}

func clone(l api.Lane) api.Lane {
	l.Bids, l.Asks, l.Owed = slices.Clone(l.Bids), slices.Clone(l.Asks), slices.Clone(l.Owed)
	return l
}

// brief keeps a failure's text short.
func brief(v any) string {
	s := fmt.Sprintf("%v", v)
	if len(s) > 300 {
		return s[:300] + " .."
	}
	return s
}

// The calls as the words say them. Whether a book may be is chapter 13's, so it is asked there.

func plainTake(l api.Lane, account int) (api.Lane, []api.Amount, api.Errno) {
	if e := book.Check(l); e != api.OK {
		return api.Lane{}, nil, e
	}
	if account < 1 || account > 8 {
		return api.Lane{}, nil, api.ErrArg
	}
	var amounts []api.Amount
	for asset := range 2 {
		at := slices.IndexFunc(l.Owed, func(o api.Owed) bool { return o.Account == account && o.Asset == asset })
		if at >= 0 {
			amounts = append(amounts, api.Amount{Asset: asset, N: l.Owed[at].N})
		}
	}
	m := clone(l)
	m.Owed = slices.DeleteFunc(m.Owed, func(o api.Owed) bool { return o.Account == account })
	return m, amounts, api.OK
}

func plainNet(l []api.Fill) ([]api.Position, api.Errno) {
	if len(l) > 1000 {
		return nil, api.ErrClearForm
	}
	for _, f := range l {
		if f.Buyer < 1 || f.Buyer > 8 || f.Seller < 1 || f.Seller > 8 || f.Price < 1 || f.Price > 1000000 || f.N < 1 || f.N > 1000000 {
			return nil, api.ErrClearForm
		}
	}
	var all []api.Position
	for account := range 9 {
		p, met := position(account, 0, 0), false
		for _, f := range l {
			if f.Buyer == account {
				p.Goods += f.N
				p.Money -= f.Price * f.N
				met = true
			}
			if f.Seller == account {
				p.Goods -= f.N
				p.Money += f.Price * f.N
				met = true
			}
		}
		if met {
			all = append(all, p)
		}
	}
	return all, api.OK
}

// holdTake holds Take against the plain one, and looks for what P15.3 says of it.
func holdTake(t *testing.T, l api.Lane, account int) {
	t.Helper()
	was := clone(l)
	m, amounts, e := clear.Take(l, account)
	pm, pa, pe := plainTake(l, account)
	if !same(m, pm) || !slices.Equal(amounts, pa) || e != pe {
		t.Fatalf("P15.1: Take(%s, %d): %s, %v, %d, want %s, %v, %d", brief(l), account, brief(m), amounts, e, brief(pm), pa, pe)
	}
	if !same(l, was) {
		t.Fatalf("R5: %s became %s", brief(was), brief(l))
	}
	if e != api.OK {
		return
	}
	var sum [2]int
	for _, a := range amounts {
		if !slices.Contains(l.Owed, owed(account, a.Asset, a.N)) {
			t.Fatalf("P15.3: %v was not owed in %s", a, brief(l))
		}
		sum[a.Asset] += a.N
	}
	money, goods, _ := book.Holds(l)
	x, y, e := book.Holds(m)
	if e != api.OK || x+sum[0] != money || y+sum[1] != goods {
		t.Fatalf("P15.3: %s held %d, %d; %s holds %d, %d, %d; taken were %v", brief(l), money, goods, brief(m), x, y, e, amounts)
	}
	if n, again, e := clear.Take(m, account); e != api.OK || len(again) != 0 || !same(n, m) {
		t.Fatalf("P15.1: taken again: %s, %v, %d", brief(n), again, e)
	}
}

// holdNet holds Net against the plain one, and looks for what P15.3 says of it.
func holdNet(t *testing.T, l []api.Fill) {
	t.Helper()
	was := slices.Clone(l)
	got, e := clear.Net(l)
	if want, f := plainNet(l); !slices.Equal(got, want) || e != f {
		t.Fatalf("P15.2: Net(%s): %v, %d, want %v, %d", brief(l), got, e, want, f)
	}
	if !slices.Equal(l, was) {
		t.Fatalf("R5: %s became %s", brief(was), brief(l))
	}
	money, goods := 0, 0
	for _, p := range got {
		money += p.Money
		goods += p.Goods
	}
	if money != 0 || goods != 0 {
		t.Fatalf("P15.3: all together have %d of money, %d of goods: %v", money, goods, got)
	}
}

func TestExample(t *testing.T) {
	got, e := clear.Net([]api.Fill{fill(2, 1, 10, 3), fill(1, 2, 11, 3)})
	if e != api.OK || !slices.Equal(got, []api.Position{position(1, -3, 0), position(2, 3, 0)}) {
		t.Errorf("P15.2: %v, %d", got, e)
	}
}

func TestNet(t *testing.T) {
	for i, c := range []struct {
		l    []api.Fill
		want []api.Position
	}{
		{nil, nil},
		{[]api.Fill{}, nil},
		{[]api.Fill{fill(1, 2, 1, 1)}, []api.Position{position(1, -1, 1), position(2, 1, -1)}},
		{[]api.Fill{fill(8, 1, 5, 2)}, []api.Position{position(1, 10, -2), position(8, -10, 2)}},
		{[]api.Fill{fill(3, 3, 7, 9)}, []api.Position{position(3, 0, 0)}},
		{[]api.Fill{fill(3, 3, 7, 9), fill(3, 1, 2, 5)}, []api.Position{position(1, 10, -5), position(3, -10, 5)}},
		{[]api.Fill{fill(5, 4, 7, 9), fill(4, 5, 7, 9)}, []api.Position{position(4, 0, 0), position(5, 0, 0)}},
		{[]api.Fill{fill(5, 4, 3, 4), fill(4, 5, 2, 6)}, []api.Position{position(4, 0, 2), position(5, 0, -2)}},
		{[]api.Fill{fill(1, 2, 1000000, 1000000)}, []api.Position{position(1, -1000000000000, 1000000), position(2, 1000000000000, -1000000)}},
		{slices.Repeat([]api.Fill{fill(2, 1, 1000000, 1000000)}, 1000), []api.Position{position(1, 1000000000000000, -1000000000), position(2, -1000000000000000, 1000000000)}},
	} {
		if got, e := clear.Net(c.l); e != api.OK || !slices.Equal(got, c.want) {
			t.Errorf("P15.2: %d: %v, %d, want %v", i, got, e, c.want)
		}
		holdNet(t, c.l)
	}
}

// edges are numbers beside which something turns.
var edges = []int{math.MinInt, -1000000, -1, 0, 1, 2, 7, 8, 9, 999999, 1000000, 1000001, math.MaxInt}

// TestEdges brings each field of one fill, the first, the last or the only one, to every edge.
func TestEdges(t *testing.T) {
	for _, ahead := range []int{0, 1, 3} {
		for _, behind := range []int{0, 2} {
			for _, n := range edges {
				for field := range 4 {
					l := slices.Repeat([]api.Fill{fill(1, 2, 3, 4)}, ahead+1+behind)
					f := &l[ahead]
					*[]*int{&f.Buyer, &f.Seller, &f.Price, &f.N}[field] = n
					holdNet(t, l)
					limit := []int{8, 8, 1000000, 1000000}[field]
					if got, e := clear.Net(l); (e == api.OK) != (n >= 1 && n <= limit) || e != api.OK && (e != api.ErrClearForm || len(got) != 0) {
						t.Errorf("P15.2: %v: %v, %d", l, got, e)
					}
				}
			}
		}
	}
	for _, n := range []int{999, 1000, 1001, 2000} {
		l := slices.Repeat([]api.Fill{fill(1, 2, 3, 4)}, n)
		holdNet(t, l)
		if got, e := clear.Net(l); (e == api.ErrClearForm) != (n > 1000) || (len(got) == 0) != (n > 1000) {
			t.Errorf("P15.2: %d fills: %v, %d", n, got, e)
		}
	}
}

func someFills(r *rand.Rand, n, accounts, prices, sizes int) []api.Fill {
	var l []api.Fill
	for range n {
		l = append(l, fill(1+r.Intn(accounts), 1+r.Intn(accounts), 1+r.Intn(prices), 1+r.Intn(sizes)))
	}
	return l
}

// sum adds two rows of positions up, account by account.
func sum(a, b []api.Position) []api.Position {
	var all []api.Position
	for account := range 9 {
		p, met := position(account, 0, 0), false
		for _, x := range slices.Concat(a, b) {
			if x.Account == account {
				p.Money += x.Money
				p.Goods += x.Goods
				met = true
			}
		}
		if met {
			all = append(all, p)
		}
	}
	return all
}

// TestFollows: neither the order of fills nor where a row is cut is to be seen.
func TestFollows(t *testing.T) {
	for seed := range int64(2000) {
		r := rand.New(rand.NewSource(seed))
		s := [][3]int{{2, 3, 3}, {8, 1000000, 1000000}, {8, 20, 20}, {4, 2, 1}}[seed%4]
		l := someFills(r, r.Intn(30), s[0], s[1], s[2])
		if seed%100 == 0 {
			l = someFills(r, 1000, s[0], s[1], s[2])
		}
		holdNet(t, l)
		all, e := clear.Net(l)
		if e != api.OK {
			t.Fatalf("P15.2: %d", e)
		}
		cut := r.Intn(len(l) + 1)
		first, _ := clear.Net(l[:cut])
		second, _ := clear.Net(l[cut:])
		if !slices.Equal(all, sum(first, second)) {
			t.Fatalf("P15.3: %v, and %v and %v", all, first, second)
		}
		r.Shuffle(len(l), func(i, j int) { l[i], l[j] = l[j], l[i] })
		if again, _ := clear.Net(l); !slices.Equal(all, again) {
			t.Fatalf("P15.3: %v, and in another order %v", all, again)
		}
	}
}

func TestTake(t *testing.T) {
	l := api.Lane{
		Call: true, Next: 9,
		Bids: []api.Order{{Id: 3, Account: 1, Price: 9, Left: 2}}, Asks: []api.Order{{Id: 4, Account: 2, Price: 5, Left: 1}, {Id: 8, Account: 1, Price: 5, Left: 1}},
		Owed: []api.Owed{owed(1, 0, 5), owed(1, 1, most), owed(2, 1, 6), owed(8, 0, most)},
	}
	for i, c := range []struct {
		account int
		taken   []api.Amount
		left    []api.Owed
	}{
		{1, []api.Amount{{Asset: 0, N: 5}, {Asset: 1, N: most}}, []api.Owed{owed(2, 1, 6), owed(8, 0, most)}},
		{2, []api.Amount{{Asset: 1, N: 6}}, []api.Owed{owed(1, 0, 5), owed(1, 1, most), owed(8, 0, most)}},
		{3, nil, l.Owed},
		{8, []api.Amount{{Asset: 0, N: most}}, []api.Owed{owed(1, 0, 5), owed(1, 1, most), owed(2, 1, 6)}},
	} {
		m, taken, e := clear.Take(l, c.account)
		want := clone(l)
		want.Owed = c.left
		if e != api.OK || !same(m, want) || !slices.Equal(taken, c.taken) {
			t.Errorf("P15.1: %d: %v, %v, %d", i, m, taken, e)
		}
	}
	for _, account := range edges {
		holdTake(t, l, account)
		holdTake(t, book.New(), account)
		if m, taken, e := clear.Take(l, account); account < 1 || account > 8 {
			if e != api.ErrArg || len(taken) != 0 || !same(m, api.Lane{}) {
				t.Errorf("P15.1: account %d: %v, %v, %d", account, m, taken, e)
			}
		}
	}
}

// TestStrange asks of books that may not be, by accounts that are and that are none: the book's error is named first.
func TestStrange(t *testing.T) {
	for i, turn := range []func(l *api.Lane){
		func(l *api.Lane) { l.Next = 0 },
		func(l *api.Lane) { l.Next = 1000002 },
		func(l *api.Lane) { l.Next = 2 },
		func(l *api.Lane) { l.Bids[0].Left = 0 },
		func(l *api.Lane) { l.Bids[0].Price = 6 },
		func(l *api.Lane) { l.Asks[0].Id = 1 },
		func(l *api.Lane) { l.Asks[0].Account = 9 },
		func(l *api.Lane) { l.Owed[0].N = 0 },
		func(l *api.Lane) { l.Owed[0].N = most + 1 },
		func(l *api.Lane) { l.Owed[1].Asset = 2 },
		func(l *api.Lane) { l.Owed[0].Account = 0 },
		func(l *api.Lane) { l.Owed = append(l.Owed, l.Owed[0]) },
	} {
		for _, account := range []int{-1, 0, 1, 2, 8, 9} {
			l := api.Lane{
				Next: 3,
				Bids: []api.Order{{Id: 1, Account: 1, Price: 5, Left: 1}}, Asks: []api.Order{{Id: 2, Account: 2, Price: 6, Left: 1}},
				Owed: []api.Owed{owed(1, 0, 1), owed(2, 1, 1)},
			}
			holdTake(t, l, account)
			turn(&l)
			holdTake(t, l, account)
			if m, taken, e := clear.Take(l, account); e != api.ErrBookForm || len(taken) != 0 || !same(m, api.Lane{}) {
				t.Errorf("P15.1: %d: %v, %v, %d", i, m, taken, e)
			}
		}
	}
}

// TestRuns deals, calls and takes: what was taken and what the book holds is always what was brought.
func TestRuns(t *testing.T) {
	took := 0
	for seed := range int64(100) {
		r := rand.New(rand.NewSource(seed))
		l := book.New()
		var brought, taken [2]int
		for range 150 {
			switch r.Intn(10) {
			case 0:
				if m, e := auction.Call(l); e == api.OK {
					l = m
				}
			case 1, 2:
				if m, fills, e := auction.Uncross(l); e == api.OK {
					holdNet(t, fills)
					l = m
				}
			case 3, 4:
				account := r.Intn(10)
				holdTake(t, l, account)
				if m, amounts, e := clear.Take(l, account); e == api.OK {
					for _, a := range amounts {
						taken[a.Asset] += a.N
						took++
					}
					l = m
				}
			default:
				side, price, n := 1+r.Intn(2), 1+r.Intn(9), 1+r.Intn(9)
				if m, fills, _, e := book.Place(l, 1+r.Intn(8), side, price, n, r.Intn(4) == 0); e == api.OK {
					holdNet(t, fills)
					l = m
					if side == api.Buy {
						brought[0] += price * n
					} else {
						brought[1] += n
					}
				}
			}
			money, goods, e := book.Holds(l)
			if e != api.OK || [2]int{money + taken[0], goods + taken[1]} != brought {
				t.Fatalf("P15.3: %s holds %d, %d, %d; taken were %v, brought %v", brief(l), money, goods, e, taken, brought)
			}
		}
	}
	if took < 1000 {
		t.Errorf("only %d were taken", took)
	}
}

// spoil fills a list and its spare room.
func spoil[T any](l []T, with T) {
	for i := range l[:cap(l)] {
		l[:cap(l)][i] = with
	}
}

// roomy is a list with spare room, all of it filled.
func roomy[T any](l []T, with T) []T {
	return append(slices.Clip(slices.Clone(l)), with, with, with)[:len(l)]
}

func whole[T any](l []T) []T { return slices.Clone(l[:cap(l)]) }

// TestMemory: what is answered shares nothing with what was handed in, and its lists share nothing.
func TestMemory(t *testing.T) {
	odd := api.Order{Id: 7, Account: 7, Price: 7, Left: 7}
	l := api.Lane{
		Next: 3,
		Bids: roomy([]api.Order{{Id: 1, Account: 1, Price: 5, Left: 1}}, odd),
		Asks: roomy([]api.Order{{Id: 2, Account: 2, Price: 6, Left: 1}}, odd),
		Owed: roomy([]api.Owed{owed(1, 0, 1), owed(1, 1, 1), owed(2, 1, 1)}, owed(7, 7, 7)),
	}
	bids, asks, debts := whole(l.Bids), whole(l.Asks), whole(l.Owed)
	for account := 1; account <= 3; account++ {
		m, taken, _ := clear.Take(l, account)
		was, amounts := clone(m), slices.Clone(taken)
		spoil(m.Bids, odd)
		m.Bids = was.Bids
		if !same(m, was) || !slices.Equal(taken, amounts) {
			t.Fatalf("R5: two lists of one answer share memory")
		}
		spoil(m.Asks, odd)
		spoil(m.Owed, owed(7, 7, 7))
		spoil(taken, api.Amount{Asset: 7, N: 7})
		if !slices.Equal(whole(l.Bids), bids) || !slices.Equal(whole(l.Asks), asks) || !slices.Equal(whole(l.Owed), debts) {
			t.Fatalf("R5: Take shares %v", l)
		}
	}
	fills := roomy([]api.Fill{fill(1, 2, 3, 4)}, fill(7, 7, 7, 7))
	was := whole(fills)
	got, _ := clear.Net(fills)
	first := slices.Clone(got)
	spoil(got, position(7, 7, 7))
	again, _ := clear.Net(fills)
	if !slices.Equal(whole(fills), was) || !slices.Equal(again, first) {
		t.Fatalf("R5, R6: %v, then %v", first, again)
	}
}
