package coord

import (
	"slices"

	"rialto/api"
	"rialto/fresh"
	"rialto/ledger"
)

// vote takes in what a peer said: whether the transaction came to commit by that.
func vote(t *api.Trans, peer int, m api.Message) bool {
	if !m.Yes {
		abort(t, m.Answer.Code)
		return false
	}
	if t.State != api.TransAsks || t.Peers[peer].Voted {
		return false
	}
	t.Peers[peer].Voted = true
	t.Amounts = added(t.Amounts, m.Answer.Amounts)
	t.Cells = append(t.Cells, fresh.List(m.Cells, fresh.Cell)...)
	if slices.ContainsFunc(t.Peers, func(p api.Peer) bool { return !p.Voted }) {
		return false
	}
	t.State = api.TransCommits
	return true
}

// abort decides against a transaction, unless it has been decided.
func abort(t *api.Trans, code api.Errno) {
	if t.State == api.TransAsks {
		t.State = api.TransAborts
		t.Answer.Code = code
	}
}

// acknowledge takes in that a peer has done what was decided, and what came of it there.
func acknowledge(t *api.Trans, peer int, a api.Answer) {
	if t.State == api.TransAsks || t.Peers[peer].Acked {
		return
	}
	t.Peers[peer].Acked = true
	if t.State != api.TransCommits {
		return
	}
	if a.Num != 0 {
		t.Answer.Num = a.Num
	}
	t.Answer.Fills = append(t.Answer.Fills, a.Fills...)
	if len(a.Amounts) > 0 {
		t.Answer.Amounts = slices.Clone(a.Amounts)
	}
}

// added is what amounts come to, asset by asset: as few peers as there are make no int overflow.
func added(a, b []api.Amount) []api.Amount {
	var all []api.Amount
	for asset := range api.MaxLanes + 1 {
		n := ledger.Balance(api.Account{Free: a}, asset) + ledger.Balance(api.Account{Free: b}, asset)
		if n > 0 {
			all = append(all, api.Amount{Asset: asset, N: n})
		}
	}
	return all
}
