package auction_test

import (
	"fmt"
	"slices"

	"rialto/api"
	"rialto/book"
)

const most = 1 << 53

// The calls as the words say them. Whether a book may be is chapter 13's, so it is asked there.

func plainRefused(l api.Lane, called bool) api.Errno {
	if e := book.Check(l); e != api.OK {
		return e
	}
	if l.Call != called {
		return api.ErrAuctionCall
	}
	return api.OK
}

func plainCall(l api.Lane) (api.Lane, api.Errno) {
	if e := plainRefused(l, false); e != api.OK {
		return api.Lane{}, e
	}
	m := clone(l)
	m.Call = true
	return m, api.OK
}

func volumeAndRest(l api.Lane, price int) (int, int) {
	demand, supply := 0, 0
	for _, o := range l.Bids {
		if !(o.Price < price) {
			demand += o.Left
		}
	}
	for _, o := range l.Asks {
		if !(o.Price > price) {
			supply += o.Left
		}
	}
	if demand > supply {
		return supply, demand - supply
	}
	return demand, supply - demand
}

func plainPrice(l api.Lane) (int, int, api.Errno) {
	if e := plainRefused(l, true); e != api.OK {
		return 0, 0, e
	}
	var all [][3]int // what is sought is the least: the volume below 0, the rest, the price
	for _, o := range slices.Concat(l.Bids, l.Asks) {
		v, r := volumeAndRest(l, o.Price)
		all = append(all, [3]int{-v, r, o.Price})
	}
	if len(all) == 0 {
		return 0, 0, api.OK
	}
	best := slices.MinFunc(all, func(a, b [3]int) int { return slices.Compare(a[:], b[:]) })
	if best[0] == 0 {
		return 0, 0, api.OK
	}
	return best[2], -best[0], api.OK
}

// plainUncross lays both sides out, one piece of goods behind the other: what lies over each other, up to the volume, trades.
func plainUncross(l api.Lane) (api.Lane, []api.Fill, api.Errno) {
	price, volume, e := plainPrice(l)
	if e != api.OK {
		return api.Lane{}, nil, e
	}
	owed := map[[2]int]int{}
	for _, o := range l.Owed {
		owed[[2]int{o.Account, o.Asset}] = o.N
	}
	var fills []api.Fill
	from := 0
	for _, bid := range l.Bids {
		other := 0
		for _, ask := range l.Asks {
			n := min(from+bid.Left, other+ask.Left, volume) - max(from, other)
			if n > 0 {
				fills = append(fills, api.Fill{Buyer: bid.Account, Seller: ask.Account, Price: price, N: n})
				owed[[2]int{bid.Account, 1}] += n
				owed[[2]int{bid.Account, 0}] += (bid.Price - price) * n
				owed[[2]int{ask.Account, 0}] += price * n
			}
			other += ask.Left
		}
		from += bid.Left
	}
	m := api.Lane{Next: l.Next, Bids: without(l.Bids, volume), Asks: without(l.Asks, volume)}
	for account := range 9 {
		for asset := range 2 {
			n := owed[[2]int{account, asset}]
			if n > most {
				return api.Lane{}, nil, api.ErrBookFull
			}
			if n != 0 {
				m.Owed = append(m.Owed, api.Owed{Account: account, Asset: asset, N: n})
			}
		}
	}
	return m, fills, api.OK
}

// without is what is left of a side when so much of it is gone, from its first order on.
func without(l []api.Order, volume int) []api.Order {
	var left []api.Order
	for _, o := range l {
		gone := min(o.Left, volume)
		volume -= gone
		o.Left -= gone
		if o.Left > 0 {
			left = append(left, o)
		}
	}
	return left
}

func same(a, b api.Lane) bool {
	return a.Call == b.Call && a.Next == b.Next && slices.Equal(a.Bids, b.Bids) && slices.Equal(a.Asks, b.Asks) && slices.Equal(a.Owed, b.Owed)
}

func clone(l api.Lane) api.Lane {
	l.Bids, l.Asks, l.Owed = slices.Clone(l.Bids), slices.Clone(l.Asks), slices.Clone(l.Owed)
	return l
}

// brief keeps a failure's text short.
func brief(v any) string {
	s := fmt.Sprintf("%v", v)
	if len(s) > 300 {
		return s[:300] + " .."
	}
	return s
}
