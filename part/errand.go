package part

import (
	"slices"

	"rialto/api"
	"rialto/auction"
	"rialto/book"
	"rialto/clear"
	"rialto/fresh"
	"rialto/ledger"
)

// The assets of which a lane owes.
const (
	money = 0
	goods = 1
)

// What an account that is netted may have, and a lane may owe it, so that what all lanes owe never makes it over.
const (
	mostHad   = 1 << 52
	mostOwed  = 1 << 50
	mostCount = 999999900
)

// errand is what a pend asks of its key: the key's cell, if it is here, and the message by which it was decided.
type errand struct {
	api.Cell
	here     bool
	pend     api.Pend
	decision api.Message
}

// place is where something is asked: a request's kind, and that of its key.
type place struct {
	request int
	key     int
}

// deeds tells what is done at a place. What answers an error may leave the errand half done: it is thrown away then.
func deeds() map[place]func(e *errand) (api.Answer, api.Errno) {
	return map[place]func(e *errand) (api.Answer, api.Errno){
		{api.ReqDeposit, api.KeyAccount}:  (*errand).deposit,
		{api.ReqWithdraw, api.KeyAccount}: (*errand).withdraw,
		{api.ReqOrder, api.KeyAccount}:    (*errand).pay,
		{api.ReqOrder, api.KeyLane}:       (*errand).order,
		{api.ReqCancel, api.KeyLane}:      (*errand).cancel,
		{api.ReqCall, api.KeyLane}:        (*errand).call,
		{api.ReqUncross, api.KeyLane}:     (*errand).uncross,
		{api.ReqNet, api.KeyAccount}:      (*errand).get,
		{api.ReqNet, api.KeyLane}:         (*errand).settle,
		{api.ReqRead, api.KeyAccount}:     (*errand).read,
		{api.ReqMove, api.KeyAccount}:     (*errand).move,
		{api.ReqMove, api.KeyLane}:        (*errand).move,
	}
}

// run does the errand; each place that a request which fits can come to has a deed.
func (e *errand) run() (api.Answer, api.Errno) {
	do, ok := deeds()[place{e.pend.Req.Kind, e.pend.Key.Kind}]
	if !ok {
		return api.Answer{}, api.ErrPartForm
	}
	return do(e)
}

func (e *errand) deposit() (api.Answer, api.Errno) {
	return e.enter(ledger.Credit(e.Account, e.pend.Req.Asset, e.pend.Req.N))
}

func (e *errand) withdraw() (api.Answer, api.Errno) {
	return e.enter(ledger.Debit(e.Account, e.pend.Req.Asset, e.pend.Req.N))
}

// pay gives what an order brings with it to its lane.
func (e *errand) pay() (api.Answer, api.Errno) {
	r := e.pend.Req
	if r.Side == api.Buy {
		return e.enter(ledger.Debit(e.Account, money, r.Price*r.N))
	}
	return e.enter(ledger.Debit(e.Account, r.Lane, r.N))
}

func (e *errand) enter(a api.Account, errno api.Errno) (api.Answer, api.Errno) {
	e.Account = a
	return api.Answer{}, errno
}

func (e *errand) order() (api.Answer, api.Errno) {
	r := e.pend.Req
	lane, fills, id, errno := book.Place(e.Lane, r.Account, r.Side, r.Price, r.N, r.Now)
	e.Lane = lane
	return api.Answer{Num: id, Fills: fills}, errno
}

func (e *errand) cancel() (api.Answer, api.Errno) {
	lane, left, errno := book.Cancel(e.Lane, e.pend.Req.Account, e.pend.Req.N)
	e.Lane = lane
	return api.Answer{Num: left}, errno
}

func (e *errand) call() (api.Answer, api.Errno) {
	lane, errno := auction.Call(e.Lane)
	e.Lane = lane
	return api.Answer{}, errno
}

func (e *errand) uncross() (api.Answer, api.Errno) {
	lane, fills, errno := auction.Uncross(e.Lane)
	e.Lane = lane
	return api.Answer{Fills: fills}, errno
}

// get gives an account what its lanes owed: of what cannot be credited nothing is told.
func (e *errand) get() (api.Answer, api.Errno) {
	var got []api.Amount
	for _, amount := range e.decision.Answer.Amounts {
		a, errno := ledger.Credit(e.Account, amount.Asset, amount.N)
		if errno == api.OK {
			e.Account = a
			got = append(got, amount)
		}
	}
	return api.Answer{Amounts: got}, api.OK
}

// settle lets a lane owe nothing more: the vote has told already what it owed.
func (e *errand) settle() (api.Answer, api.Errno) {
	lane, _, errno := clear.Take(e.Lane, e.pend.Req.Account)
	e.Lane = lane
	return api.Answer{}, errno
}

func (e *errand) read() (api.Answer, api.Errno) {
	return api.Answer{Amounts: e.pend.Amounts}, api.OK
}

func (e *errand) move() (api.Answer, api.Errno) {
	if e.here {
		e.Cell, e.here = api.Cell{}, false
		return api.Answer{}, api.OK
	}
	for _, cell := range e.decision.Cells {
		e.Cell, e.here = fresh.Cell(cell), true
		e.Version++
	}
	return api.Answer{}, api.OK
}

// isRejected tries the errand on a copy. Netting alone is judged by other limits than those by which it is done.
func (e errand) isRejected() bool {
	if e.pend.Req.Kind != api.ReqNet {
		_, errno := e.run()
		return errno != api.OK
	}
	if e.pend.Key.Kind == api.KeyAccount {
		return hasAbove(e.Account.Free, mostHad) || e.Account.Count > mostCount
	}
	return hasAbove(e.owed(), mostOwed)
}

func hasAbove(l []api.Amount, most int) bool {
	return slices.ContainsFunc(l, func(a api.Amount) bool { return a.N > most })
}

// shownAmounts and shownCells are what a vote for the errand tells.
func (e errand) shownAmounts() []api.Amount {
	if e.pend.Req.Kind == api.ReqNet && e.pend.Key.Kind == api.KeyLane {
		return e.owed()
	}
	if e.pend.Req.Kind == api.ReqRead {
		return slices.Clone(e.Account.Free)
	}
	return nil
}

func (e errand) shownCells() []api.Cell {
	if e.pend.Req.Kind != api.ReqMove || !e.here {
		return nil
	}
	return []api.Cell{fresh.Cell(e.Cell)}
}

// owed is what a lane owes the request's account; elsewhere its goods go by the lane's number.
func (e errand) owed() []api.Amount {
	_, l, _ := clear.Take(e.Lane, e.pend.Req.Account)
	for i := range l {
		if l[i].Asset == goods {
			l[i].Asset = e.pend.Key.N
		}
	}
	return l
}
