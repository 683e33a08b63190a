package book

import (
	"slices"

	"rialto/api"
)

// deal is a book that is being changed, in memory of its own, and the trades so far.
type deal struct {
	lane  api.Lane
	fills []api.Fill
}

func copied(l api.Lane) api.Lane {
	l.Bids = slices.Clone(l.Bids)
	l.Asks = slices.Clone(l.Asks)
	l.Owed = slices.Clone(l.Owed)
	return l
}

func (d *deal) orders(side int) *[]api.Order { return sideOf(&d.lane, side) }

// trade lets a new order of a side meet those of the other one: how much is left of it.
func (d *deal) trade(side int, order api.Order) int {
	there := d.orders(otherSide(side))
	meets := meeting(side, order.Price)
	for order.Left > 0 && len(*there) > 0 && meets((*there)[0].Price) {
		first := &(*there)[0]
		n := min(order.Left, first.Left)
		d.settle(side, order, *first, n)
		order.Left -= n
		first.Left -= n
		if first.Left == 0 {
			*there = slices.Delete(*there, 0, 1)
		}
	}
	return order.Left
}

// settle writes a trade of n between a new order of a side and one that rested, at the Price of the latter.
func (d *deal) settle(side int, order, rested api.Order, n int) {
	buyer, seller := order, rested
	if side == api.Sell {
		buyer, seller = rested, order
	}
	price := rested.Price
	d.fills = append(d.fills, api.Fill{Buyer: buyer.Account, Seller: seller.Account, Price: price, N: n})
	d.owe(buyer.Account, goods, n)
	d.owe(seller.Account, money, price*n)
	if buyer.Price > price {
		d.owe(buyer.Account, money, (buyer.Price-price)*n)
	}
}

// giveBack owes an order's account what the order holds.
func (d *deal) giveBack(side int, order api.Order) {
	asset, n := brings(side, order)
	d.owe(order.Account, asset, n)
}

// takeOut takes an order of an account's out of its side, and owes what it holds.
func (d *deal) takeOut(account, id int) (api.Order, bool) {
	for _, side := range bothSides() {
		own := d.orders(side)
		at := slices.IndexFunc(*own, func(o api.Order) bool { return o.Id == id && o.Account == account })
		if at >= 0 {
			order := (*own)[at]
			*own = slices.Delete(*own, at, at+1)
			d.giveBack(side, order)
			return order, true
		}
	}
	return api.Order{}, false
}

// owe owes an account n more of an asset; that it would be over is asked when all is done, for nothing is ever owed less on the way.
func (d *deal) owe(account, asset, n int) {
	at := slices.IndexFunc(d.lane.Owed, func(o api.Owed) bool { return o.Account == account && o.Asset == asset })
	if at >= 0 {
		d.lane.Owed[at].N += n
		return
	}
	d.lane.Owed = laid(d.lane.Owed, api.Owed{Account: account, Asset: asset, N: n}, owedAhead)
}

func (d *deal) isOver() bool {
	return slices.ContainsFunc(d.lane.Owed, func(o api.Owed) bool { return o.N > api.MaxBalance })
}
