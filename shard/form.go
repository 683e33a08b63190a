package shard

import (
	"slices"

	"rialto/api"
	"rialto/coord"
	"rialto/part"
	"rialto/session"
)

// client stands in a message for the client who asks, or is answered.
const client = -1

const maxCode = 999

// The fields that a message may have beside its Txn, as bits.
const (
	itsKey = 1 << iota
	itsReq
	itsHint // where its key is, said by a request, or nothing
	itsYes
	itsCode
	itsNum
	itsAmounts
	itsFills
	itsCells
)

// forms tells, by a message's Kind, which fields it has.
var forms = [...]int{
	api.MsgAsk:     itsReq,
	api.MsgPrepare: itsKey | itsReq,
	api.MsgVote:    itsKey | itsHint | itsYes | itsCode | itsNum | itsAmounts | itsCells,
	api.MsgFinish:  itsKey | itsYes | itsAmounts | itsCells,
	api.MsgAck:     itsKey | itsNum | itsAmounts | itsFills,
	api.MsgWound:   0,
	api.MsgAnswer:  itsCode | itsNum | itsAmounts | itsFills,
}

// mayBe tells whether a message is as its kind says.
func mayBe(m api.Message) bool {
	if !within(m.Kind, api.MsgAsk, api.MsgAnswer) {
		return false
	}
	has := forms[m.Kind]
	return isEnd(m.From, m.Kind == api.MsgAsk) && isEnd(m.To, m.Kind == api.MsgAnswer) &&
		isName(m.Txn) &&
		fitsKey(has, m) && fitsRequest(has, m) && fitsAnswer(has, m.Answer) && fitsCells(has, m) &&
		(has&itsYes != 0 || !m.Yes)
}

// isEnd tells whether a message may begin or end there: at the client's, if it is one that does, else at a group.
func isEnd(n int, isClient bool) bool {
	if isClient {
		return n == client
	}
	return within(n, 0, api.MaxGroups-1)
}

func fitsKey(has int, m api.Message) bool {
	if has&itsKey == 0 {
		return m.Key == api.Key{}
	}
	return isKey(m.Key)
}

func fitsRequest(has int, m api.Message) bool {
	switch {
	case has&itsReq != 0 && has&itsKey != 0:
		return slices.Contains(session.Keys(m.Req), m.Key)
	case has&itsReq != 0:
		return session.Fits(m.Req)
	case has&itsHint != 0 && m.Req.Kind == api.ReqMove:
		return session.Fits(m.Req)
	}
	return m.Req == api.Request{}
}

func fitsAnswer(has int, a api.Answer) bool {
	return fits(has&itsCode, int(a.Code), maxCode) &&
		fits(has&itsNum, a.Num, api.MaxNext) &&
		fits(has&itsAmounts, len(a.Amounts), api.MaxLanes+1) && areAmounts(a.Amounts) &&
		fits(has&itsFills, len(a.Fills), api.MaxFills) && !slices.ContainsFunc(a.Fills, isStrange)
}

// fitsCells lets a participant that has nothing take the cells in: the message's key and name may be, so nothing but their form is refused.
func fitsCells(has int, m api.Message) bool {
	if len(m.Cells) == 0 {
		return true
	}
	if has&itsCells == 0 {
		return false
	}
	p, _ := part.New(0, nil)
	_, _, _, e := part.Finish(p, api.Message{Kind: api.MsgFinish, Txn: m.Txn, Key: m.Key, Cells: m.Cells})
	return e == api.OK
}

// fits tells whether a number goes no further than it may, or is zero where there is no such field.
func fits(has, n, most int) bool {
	if has == 0 {
		return n == 0
	}
	return within(n, 0, most)
}

// areAmounts lets a coordinator without transactions hear of them: nothing but their form is wrong with the message then.
func areAmounts(l []api.Amount) bool {
	c, _ := coord.New(0)
	_, _, e := coord.Hear(c, api.Message{Kind: api.MsgAck, Answer: api.Answer{Amounts: l}})
	return e != api.ErrCoordForm
}

// isStrange tells whether a fill is none that a book makes.
func isStrange(f api.Fill) bool {
	return !within(f.Buyer, 1, api.MaxAccounts) || !within(f.Seller, 1, api.MaxAccounts) || !within(f.Price, 1, api.MaxPrice) || !within(f.N, 1, api.MaxSize)
}

// isName lets it begin where there are no sessions: a name may be out of turn there, but is refused for its form alone if it is none.
func isName(t api.Txn) bool {
	_, _, _, e := session.Begin(nil, t)
	return e != api.ErrArg
}

// isKey lets it be moved: then nothing but the key's form can be unfit.
func isKey(k api.Key) bool { return session.Fits(api.Request{Kind: api.ReqMove, Key: k}) }
