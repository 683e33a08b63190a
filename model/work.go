package model

import (
	"slices"

	"rialto/api"
	"rialto/auction"
	"rialto/book"
	"rialto/clear"
	"rialto/ledger"
)

// What an account that is netted may have, and a lane may owe it, so that what all lanes owe never makes it over.
const (
	mostHad   = 1 << 52
	mostOwed  = 1 << 50
	mostCount = 999999900
)

// The assets that a lane owes: money is that one everywhere.
const (
	money = 0
	goods = 1
)

// sheet is so much of each asset, by their numbers: money, and the goods of each lane.
type sheet [api.MaxLanes + 1]int

// work is a model on which a request is done, key by key. Where that answers an error, all of it is thrown away.
type work struct {
	api.Model
	req    api.Request
	owed   sheet
	answer api.Answer
}

// doAt does at a key what the request asks there; an error says that it is rejected.
func (w *work) doAt(key api.Key) api.Errno {
	if w.req.Kind == api.ReqMove { // one machine has all keys in one place
		return api.OK
	}
	if key.Kind == api.KeyAccount {
		return w.doAccount(&w.Accounts[key.N-1])
	}
	return w.doLane(&w.Lanes[key.N-1], key.N)
}

func (w *work) doAccount(a *api.Account) api.Errno {
	e, asset, n := api.OK, w.req.Asset, w.req.N
	switch w.req.Kind {
	case api.ReqDeposit:
		*a, e = ledger.Credit(*a, asset, n)
	case api.ReqOrder: // what it brings to its lane is taken out as by a withdrawal
		asset, n = brought(w.req)
		fallthrough
	case api.ReqWithdraw:
		*a, e = ledger.Debit(*a, asset, n)
	case api.ReqNet:
		e = w.pay(a)
	case api.ReqRead:
		w.answer.Amounts = slices.Clone(a.Free)
	}
	return e
}

func (w *work) doLane(l *api.Lane, number int) api.Errno {
	e, r := api.OK, w.req
	switch r.Kind {
	case api.ReqOrder:
		*l, w.answer.Fills, w.answer.Num, e = book.Place(*l, r.Account, r.Side, r.Price, r.N, r.Now)
	case api.ReqCancel:
		*l, w.answer.Num, e = book.Cancel(*l, r.Account, r.N)
	case api.ReqCall:
		*l, e = auction.Call(*l)
	case api.ReqUncross:
		*l, w.answer.Fills, e = auction.Uncross(*l)
	case api.ReqNet:
		e = w.settle(l, number)
	}
	return e
}

// brought is what an order takes from its account to its lane.
func brought(r api.Request) (asset int, n int) {
	if r.Side == api.Buy {
		return money, r.Price * r.N
	}
	return r.Lane, r.N
}

// settle takes out of a lane what it owes the request's account; elsewhere its goods go by the lane's number.
func (w *work) settle(l *api.Lane, number int) api.Errno {
	left, taken, e := clear.Take(*l, w.req.Account)
	if e != api.OK || hasAbove(taken, mostOwed) {
		return api.ErrRejected
	}
	*l = left
	for _, amount := range taken {
		asset := amount.Asset
		if asset == goods {
			asset = number
		}
		w.owed[asset] += amount.N
	}
	return api.OK
}

// pay gives an account what its lanes owed.
func (w *work) pay(a *api.Account) api.Errno {
	if hasAbove(a.Free, mostHad) || a.Count > mostCount {
		return api.ErrRejected
	}
	w.answer.Amounts = w.owed.amounts()
	for _, amount := range w.answer.Amounts {
		next, e := ledger.Credit(*a, amount.Asset, amount.N)
		if e != api.OK {
			return e
		}
		*a = next
	}
	return api.OK
}

func hasAbove(l []api.Amount, most int) bool {
	return slices.ContainsFunc(l, func(a api.Amount) bool { return a.N > most })
}

// add takes amounts alone: of others an asset may have no place.
func (s *sheet) add(l []api.Amount) {
	for _, amount := range l {
		s[amount.Asset] += amount.N
	}
}

// amounts are those of which there is something, in memory of their own.
func (s *sheet) amounts() []api.Amount {
	var l []api.Amount
	for asset, n := range s {
		if n > 0 {
			l = append(l, api.Amount{Asset: asset, N: n})
		}
	}
	return l
}
