// Package same tells whether states are the same: a list without elements may be nil or not.
package same

import (
	"slices"

	"rialto/api"
)

// Shard tells whether two states of a group are the same.
func Shard(a, b api.Shard) bool {
	return a.Group == b.Group && a.Groups == b.Groups &&
		part(a.Part, b.Part) && coord(a.Coord, b.Coord) &&
		slices.EqualFunc(a.Sessions, b.Sessions, session) && slices.Equal(a.Map, b.Map)
}

func part(a, b api.Part) bool {
	return a.Group == b.Group && slices.EqualFunc(a.Cells, b.Cells, cell) &&
		slices.Equal(a.Locks.Held, b.Locks.Held) && slices.Equal(a.Locks.Wait, b.Locks.Wait) &&
		slices.EqualFunc(a.Pends, b.Pends, pend) && slices.EqualFunc(a.Done, b.Done, done)
}

func coord(a, b api.Coord) bool {
	return a.Group == b.Group && slices.EqualFunc(a.Trans, b.Trans, trans)
}

func session(a, b api.Session) bool {
	return a.Client == b.Client && a.Seq == b.Seq && a.Done == b.Done && answer(a.Answer, b.Answer)
}

func cell(a, b api.Cell) bool {
	return a.Key == b.Key && a.Version == b.Version &&
		a.Account.Count == b.Account.Count && slices.Equal(a.Account.Free, b.Account.Free) &&
		lane(a.Lane, b.Lane)
}

func lane(a, b api.Lane) bool {
	return a.Call == b.Call && a.Next == b.Next &&
		slices.Equal(a.Bids, b.Bids) && slices.Equal(a.Asks, b.Asks) && slices.Equal(a.Owed, b.Owed)
}

func pend(a, b api.Pend) bool {
	return a.Txn == b.Txn && a.Key == b.Key && a.Home == b.Home && a.Req == b.Req &&
		a.Voted == b.Voted && a.Yes == b.Yes && a.Code == b.Code &&
		slices.Equal(a.Amounts, b.Amounts) && slices.EqualFunc(a.Cells, b.Cells, cell)
}

func done(a, b api.Done) bool {
	return a.Key == b.Key && a.Client == b.Client && a.Seq == b.Seq && answer(a.Answer, b.Answer)
}

func trans(a, b api.Trans) bool {
	return a.Txn == b.Txn && a.Req == b.Req && slices.Equal(a.Peers, b.Peers) && a.State == b.State &&
		slices.Equal(a.Amounts, b.Amounts) && slices.EqualFunc(a.Cells, b.Cells, cell) && answer(a.Answer, b.Answer)
}

func answer(a, b api.Answer) bool {
	return a.Code == b.Code && a.Num == b.Num && slices.Equal(a.Amounts, b.Amounts) && slices.Equal(a.Fills, b.Fills)
}
