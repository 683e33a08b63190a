package whole

import (
	"math/rand"

	"rialto/api"
)

func account(n int) api.Key { return api.Key{Kind: api.KeyAccount, N: n} }

func lane(n int) api.Key { return api.Key{Kind: api.KeyLane, N: n} }

func deposit(account, asset, n int) api.Request {
	return api.Request{Kind: api.ReqDeposit, Account: account, Asset: asset, N: n}
}

func withdraw(account, asset, n int) api.Request {
	return api.Request{Kind: api.ReqWithdraw, Account: account, Asset: asset, N: n}
}

func order(account, lane, side, price, n int) api.Request {
	return api.Request{Kind: api.ReqOrder, Account: account, Lane: lane, Side: side, Price: price, N: n}
}

func net(account int) api.Request { return api.Request{Kind: api.ReqNet, Account: account} }

func read(account int) api.Request { return api.Request{Kind: api.ReqRead, Account: account} }

func move(key api.Key, to int) api.Request {
	return api.Request{Kind: api.ReqMove, Key: key, To: to}
}

// someRequest fits; accounts and lanes are few, so that requests meet.
func someRequest(r *rand.Rand) api.Request {
	a, l := 1+r.Intn(3), 1+r.Intn(2)
	switch kind := []int{1, 1, 1, 2, 3, 3, 3, 3, 4, 5, 6, 6, 7, 7, 8, 9, 9, 9}[r.Intn(18)]; kind {
	case api.ReqDeposit:
		return deposit(a, r.Intn(4), 1+r.Intn(60))
	case api.ReqWithdraw:
		return withdraw(a, r.Intn(4), 1+r.Intn(20))
	case api.ReqOrder:
		x := order(a, l, 1+r.Intn(2), 1+r.Intn(5), 1+r.Intn(5))
		x.Now = r.Intn(6) == 0
		return x
	case api.ReqCancel:
		return api.Request{Kind: kind, Account: a, Lane: l, N: 1 + r.Intn(9)}
	case api.ReqCall, api.ReqUncross:
		return api.Request{Kind: kind, Lane: l}
	case api.ReqNet:
		return net(a)
	case api.ReqRead:
		return read(a)
	}
	if r.Intn(2) == 0 {
		return move(lane(l), r.Intn(4))
	}
	return move(account(a), r.Intn(4))
}
