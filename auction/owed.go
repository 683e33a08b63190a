package auction

import "rialto/api"

// The assets of a lane.
const (
	money = 0
	goods = 1
)

// claim names what may be owed: an account, and an asset.
type claim [2]int

// claims are how much is owed of each.
type claims map[claim]int

func claimsOf(l []api.Owed) claims {
	c := claims{}
	for _, o := range l {
		c[claim{o.Account, o.Asset}] = o.N
	}
	return c
}

// settle owes what a trade of n at a price gives both: a bid brought its own Price with it, and what that is too much goes back.
func (c claims) settle(bid, ask api.Order, price, n int) {
	c[claim{bid.Account, goods}] += n
	if bid.Price > price {
		c[claim{bid.Account, money}] += (bid.Price - price) * n
	}
	c[claim{ask.Account, money}] += price * n
}

// areOver is asked when all trades are done, for nothing is ever owed less on the way.
func (c claims) areOver() bool {
	for _, n := range c {
		if n > api.MaxBalance {
			return true
		}
	}
	return false
}

// list goes by accounts and assets, not by the map, whose order is none.
func (c claims) list() []api.Owed {
	var l []api.Owed
	for account := 1; account <= api.MaxAccounts; account++ {
		for asset := money; asset <= goods; asset++ {
			if n := c[claim{account, asset}]; n > 0 {
				l = append(l, api.Owed{Account: account, Asset: asset, N: n})
			}
		}
	}
	return l
}
