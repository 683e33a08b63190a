package book_test

import (
	"fmt"
	"maps"
	"slices"

	"rialto/api"
)

const (
	most     = 1 << 53
	mostNext = 1000001
)

// The calls as the words say them, each order sought anew by going over all.

func plainMayBe(l api.Lane) bool {
	if l.Next < 1 || l.Next > mostNext || len(l.Bids) > 40 || len(l.Asks) > 40 {
		return false
	}
	met := map[int]bool{}
	for _, o := range slices.Concat(l.Bids, l.Asks) {
		if o.Account < 1 || o.Account > 8 || o.Price < 1 || o.Price > 1000000 || o.Left < 1 || o.Left > 1000000 {
			return false
		}
		if o.Id < 1 || o.Id >= l.Next || met[o.Id] {
			return false
		}
		met[o.Id] = true
	}
	for i, a := range l.Bids {
		for _, b := range l.Bids[i+1:] {
			if b.Price > a.Price || b.Price == a.Price && b.Id < a.Id {
				return false
			}
		}
		if !l.Call && len(l.Asks) > 0 && i == 0 && a.Price >= l.Asks[0].Price {
			return false
		}
	}
	for i, a := range l.Asks {
		for _, b := range l.Asks[i+1:] {
			if b.Price < a.Price || b.Price == a.Price && b.Id < a.Id {
				return false
			}
		}
	}
	ahead := -1
	for _, o := range l.Owed {
		if o.Account < 1 || o.Account > 8 || o.Asset < 0 || o.Asset > 1 || o.N < 1 || o.N > most || o.Account*2+o.Asset <= ahead {
			return false
		}
		ahead = o.Account*2 + o.Asset
	}
	return true
}

// plain is a book without any order: who stands first is asked when it is to be known.
type plain struct {
	bids, asks map[int]api.Order
	owed       map[api.Owed]int // by Owed whose N is 0
}

func plainOf(l api.Lane) plain {
	p := plain{bids: map[int]api.Order{}, asks: map[int]api.Order{}, owed: map[api.Owed]int{}}
	for _, o := range l.Bids {
		p.bids[o.Id] = o
	}
	for _, o := range l.Asks {
		p.asks[o.Id] = o
	}
	for _, o := range l.Owed {
		p.owe(o.Account, o.Asset, o.N)
	}
	return p
}

func (p plain) owe(account, asset, n int) { p.owed[api.Owed{Account: account, Asset: asset}] += n }

func (p plain) over() bool {
	for _, n := range p.owed {
		if n > most {
			return true
		}
	}
	return false
}

// rank is the less the sooner an order is served.
func rank(o api.Order, side int) int {
	if side == api.Buy {
		return (1000000-o.Price)*2000000 + o.Id
	}
	return o.Price*2000000 + o.Id
}

func sorted(orders map[int]api.Order, side int) []api.Order {
	return slices.SortedFunc(maps.Values(orders), func(a, b api.Order) int { return rank(a, side) - rank(b, side) })
}

func (p plain) lane(call bool, next int) api.Lane {
	l := api.Lane{Call: call, Next: next, Bids: sorted(p.bids, api.Buy), Asks: sorted(p.asks, api.Sell)}
	for account := range 9 {
		for asset := range 2 {
			if n := p.owed[api.Owed{Account: account, Asset: asset}]; n != 0 {
				l.Owed = append(l.Owed, api.Owed{Account: account, Asset: asset, N: n})
			}
		}
	}
	return l
}

// buy trades a new bid as long as there is an ask that is cheap enough; sell the other way round.
func (p plain) buy(o *api.Order) []api.Fill {
	var fills []api.Fill
	for o.Left > 0 && len(p.asks) > 0 {
		ask := sorted(p.asks, api.Sell)[0]
		if ask.Price > o.Price {
			break
		}
		n := min(ask.Left, o.Left)
		fills = append(fills, api.Fill{Buyer: o.Account, Seller: ask.Account, Price: ask.Price, N: n})
		p.owe(o.Account, 1, n)
		p.owe(ask.Account, 0, ask.Price*n)
		p.owe(o.Account, 0, (o.Price-ask.Price)*n)
		o.Left -= n
		ask.Left -= n
		p.asks[ask.Id] = ask
		if ask.Left == 0 {
			delete(p.asks, ask.Id)
		}
	}
	return fills
}

func (p plain) sell(o *api.Order) []api.Fill {
	var fills []api.Fill
	for o.Left > 0 && len(p.bids) > 0 {
		bid := sorted(p.bids, api.Buy)[0]
		if bid.Price < o.Price {
			break
		}
		n := min(bid.Left, o.Left)
		fills = append(fills, api.Fill{Buyer: bid.Account, Seller: o.Account, Price: bid.Price, N: n})
		p.owe(bid.Account, 1, n)
		p.owe(o.Account, 0, bid.Price*n)
		o.Left -= n
		bid.Left -= n
		p.bids[bid.Id] = bid
		if bid.Left == 0 {
			delete(p.bids, bid.Id)
		}
	}
	return fills
}

func plainPlace(l api.Lane, account, side, price, n int, now bool) (api.Lane, []api.Fill, int, api.Errno) {
	switch {
	case !plainMayBe(l):
		return api.Lane{}, nil, 0, api.ErrBookForm
	case account < 1 || account > 8 || side < 1 || side > 2 || price < 1 || price > 1000000 || n < 1 || n > 1000000:
		return api.Lane{}, nil, 0, api.ErrArg
	case now && l.Call:
		return api.Lane{}, nil, 0, api.ErrBookCall
	case side == 1 && len(l.Bids) == 40 || side == 2 && len(l.Asks) == 40 || l.Next == mostNext:
		return api.Lane{}, nil, 0, api.ErrBookFull
	}
	p := plainOf(l)
	o := api.Order{Id: l.Next, Account: account, Price: price, Left: n}
	var fills []api.Fill
	if !l.Call && side == 1 {
		fills = p.buy(&o)
	} else if !l.Call {
		fills = p.sell(&o)
	}
	switch {
	case o.Left == 0:
	case now && side == 1:
		p.owe(account, 0, price*o.Left)
	case now:
		p.owe(account, 1, o.Left)
	case side == 1:
		p.bids[o.Id] = o
	default:
		p.asks[o.Id] = o
	}
	if p.over() {
		return api.Lane{}, nil, 0, api.ErrBookFull
	}
	return p.lane(l.Call, l.Next+1), fills, l.Next, api.OK
}

func plainCancel(l api.Lane, account, id int) (api.Lane, int, api.Errno) {
	if !plainMayBe(l) {
		return api.Lane{}, 0, api.ErrBookForm
	}
	p := plainOf(l)
	left := 0
	if o, ok := p.bids[id]; ok && o.Account == account {
		delete(p.bids, id)
		p.owe(account, 0, o.Price*o.Left)
		left = o.Left
	} else if o, ok := p.asks[id]; ok && o.Account == account {
		delete(p.asks, id)
		p.owe(account, 1, o.Left)
		left = o.Left
	} else {
		return api.Lane{}, 0, api.ErrBookNone
	}
	if p.over() {
		return api.Lane{}, 0, api.ErrBookFull
	}
	return p.lane(l.Call, l.Next), left, api.OK
}

func plainHolds(l api.Lane) (int, int, api.Errno) {
	if !plainMayBe(l) {
		return 0, 0, api.ErrBookForm
	}
	money, goods := 0, 0
	for _, o := range l.Bids {
		money += o.Price * o.Left
	}
	for _, o := range l.Asks {
		goods += o.Left
	}
	for _, o := range l.Owed {
		if o.Asset == 0 {
			money += o.N
		} else {
			goods += o.N
		}
	}
	return money, goods, api.OK
}

func same(a, b api.Lane) bool {
	return a.Call == b.Call && a.Next == b.Next && slices.Equal(a.Bids, b.Bids) && slices.Equal(a.Asks, b.Asks) && slices.Equal(a.Owed, b.Owed)
}

func clone(l api.Lane) api.Lane {
	l.Bids, l.Asks, l.Owed = slices.Clone(l.Bids), slices.Clone(l.Asks), slices.Clone(l.Owed)
	return l
}

// brief keeps a failure's text short.
func brief(v any) string {
	s := fmt.Sprintf("%v", v)
	if len(s) > 300 {
		return s[:300] + " .."
	}
	return s
}
