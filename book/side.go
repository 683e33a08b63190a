package book

import (
	"slices"

	"rialto/api"
)

func bothSides() [2]int { return [2]int{api.Buy, api.Sell} }

func otherSide(side int) int {
	if side == api.Buy {
		return api.Sell
	}
	return api.Buy
}

func sideOf(l *api.Lane, side int) *[]api.Order {
	if side == api.Buy {
		return &l.Bids
	}
	return &l.Asks
}

// served tells, for a side, whether one order there stands ahead of another one.
func served(side int) func(a, b api.Order) bool {
	return func(a, b api.Order) bool {
		if a.Price == b.Price {
			return a.Id < b.Id
		}
		return (a.Price > b.Price) == (side == api.Buy)
	}
}

// meeting tells, for an order of a side and a price, whether it may trade at another price: a buyer not above its own, a seller not below.
func meeting(side, price int) func(at int) bool {
	if side == api.Buy {
		return func(at int) bool { return at <= price }
	}
	return func(at int) bool { return at >= price }
}

// brings is what an order holds of its account's: a bid money, an ask goods.
func brings(side int, o api.Order) (asset int, n int) {
	if side == api.Buy {
		return money, o.Price * o.Left
	}
	return goods, o.Left
}

func owedAhead(a, b api.Owed) bool {
	return a.Account < b.Account || a.Account == b.Account && a.Asset < b.Asset
}

// inOrder tells whether each one of a list stands ahead of the next.
func inOrder[T any](l []T, ahead func(a, b T) bool) bool {
	for i := 1; i < len(l); i++ {
		if !ahead(l[i-1], l[i]) {
			return false
		}
	}
	return true
}

// laid is a list with one more, behind all that stand ahead of it.
func laid[T any](l []T, one T, ahead func(a, b T) bool) []T {
	at := 0
	for at < len(l) && ahead(l[at], one) {
		at++
	}
	return slices.Insert(l, at, one)
}
