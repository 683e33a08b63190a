package session

import (
	"rialto/api"
	"rialto/locks"
)

// The fields that a request may have, as bits.
const (
	account = 1 << iota
	lane
	asset
	side
	price
	size
	now
	key
	to
)

// The keys that a request may touch, as bits.
const (
	itsAccount = 1 << iota
	itsLane
	allLanes
	itsKey
)

type form struct {
	fields int
	keys   int
}

// forms tells, by a request's Kind, which fields it has, and which keys it touches.
var forms = [...]form{
	api.ReqDeposit:  {account | asset | size, itsAccount},
	api.ReqWithdraw: {account | asset | size, itsAccount},
	api.ReqOrder:    {account | lane | side | price | size | now, itsAccount | itsLane},
	api.ReqCancel:   {account | lane | size, itsLane},
	api.ReqCall:     {lane, itsLane},
	api.ReqUncross:  {lane, itsLane},
	api.ReqNet:      {account, itsAccount | allLanes},
	api.ReqRead:     {account, itsAccount},
	api.ReqMove:     {key | to, itsKey},
}

// Fits tells whether a request is as its kind says, Keys which keys it touches.
func Fits(r api.Request) bool {
	if !within(r.Kind, api.ReqDeposit, api.ReqMove) {
		return false
	}
	has := forms[r.Kind].fields
	return fits(has&account, r.Account, 1, api.MaxAccounts) &&
		fits(has&lane, r.Lane, 1, api.MaxLanes) &&
		fits(has&asset, r.Asset, 0, api.MaxLanes) &&
		fits(has&side, r.Side, api.Buy, api.Sell) &&
		fits(has&price, r.Price, 1, api.MaxPrice) &&
		fits(has&size, r.N, 1, api.MaxAmount) && // an order's size and its number go just as far
		(has&now != 0 || !r.Now) &&
		fitsKey(has&key, r.Key) &&
		fits(has&to, r.To, 0, api.MaxGroups-1)
}

func Keys(r api.Request) []api.Key {
	if !Fits(r) {
		return nil
	}
	var l []api.Key
	touched := forms[r.Kind].keys
	if touched&itsAccount != 0 {
		l = append(l, api.Key{Kind: api.KeyAccount, N: r.Account})
	}
	if touched&itsLane != 0 {
		l = append(l, api.Key{Kind: api.KeyLane, N: r.Lane})
	}
	if touched&allLanes != 0 {
		for n := range api.MaxLanes {
			l = append(l, api.Key{Kind: api.KeyLane, N: n + 1})
		}
	}
	if touched&itsKey != 0 {
		l = append(l, r.Key)
	}
	return l
}

// fits tells whether a number is as its field asks, or zero where there is no such field.
func fits(has, n, least, most int) bool {
	if has == 0 {
		return n == 0
	}
	return within(n, least, most)
}

// fitsKey lets a name that is one ask for the key: then nothing but the key's form is refused.
func fitsKey(has int, k api.Key) bool {
	if has == 0 {
		return k == api.Key{}
	}
	_, _, e := locks.Ask(api.Table{}, k, api.Txn{Client: 1, Seq: 1})
	return e == api.OK
}

func within(n, least, most int) bool { return n >= least && n <= most }
