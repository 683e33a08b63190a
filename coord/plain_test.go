package coord_test

import (
	"fmt"
	"math"
	"reflect"
	"slices"

	"rialto/api"
	"rialto/session"
)

// edges are numbers beside which something turns.
var edges = []int{math.MinInt, -1, 0, 1, 2, 3, 4, 5, 6, 7, 8, 9, 99999, 100000, 100001, math.MaxInt}

func account(n int) api.Key { return api.Key{Kind: api.KeyAccount, N: n} }

func lane(n int) api.Key { return api.Key{Kind: api.KeyLane, N: n} }

func name(client, seq int) api.Txn { return api.Txn{Client: client, Seq: seq} }

func peer(key api.Key, group int) api.Peer { return api.Peer{Key: key, Group: group} }

func amount(asset, n int) api.Amount { return api.Amount{Asset: asset, N: n} }

func amounts(l ...api.Amount) []api.Amount { return l }

// The calls as the words say them. What a request must be is asked of session.

func plainKey(k api.Key) bool {
	return k.Kind == 1 && k.N >= 1 && k.N <= 8 || k.Kind == 2 && k.N >= 1 && k.N <= 3
}

func plainName(t api.Txn) bool {
	return t.Client >= 1 && t.Client <= 6 && t.Seq >= 1 && t.Seq <= 100000
}

func plainAmounts(l []api.Amount) bool {
	for i, a := range l {
		if a.Asset < 0 || a.Asset > 3 || a.N < 1 || a.N > 9007199254740992 || i > 0 && l[i-1].Asset >= a.Asset {
			return false
		}
	}
	return true
}

func plainNew(group int) (api.Coord, api.Errno) {
	if group < 0 || group > 3 {
		return api.Coord{}, api.ErrArg
	}
	return api.Coord{Group: group}, api.OK
}

func plainBegin(c api.Coord, t api.Txn, r api.Request, peers []api.Peer) (api.Coord, api.Errno) {
	if !plainName(t) || !session.Fits(r) {
		return api.Coord{}, api.ErrArg
	}
	for _, x := range c.Trans {
		if x.Txn == t {
			return api.Coord{}, api.ErrCoordTwice
		}
	}
	met := map[api.Peer]int{}
	for _, p := range peers {
		met[peer(p.Key, p.Group)]++
		if met[peer(p.Key, p.Group)] > 1 || !plainKey(p.Key) || p.Group < 0 || p.Group > 3 || p.Voted || p.Acked {
			return api.Coord{}, api.ErrCoordForm
		}
	}
	if len(peers) == 0 || len(peers) > 5 {
		return api.Coord{}, api.ErrCoordForm
	}
	next := clone(c)
	next.Trans = append(next.Trans, api.Trans{Txn: t, Req: r, Peers: slices.Clone(peers), State: 1})
	return next, api.OK
}

func plainHear(c api.Coord, m api.Message) (api.Coord, []api.Mark, api.Errno) {
	if m.To != c.Group || !slices.Contains([]int{3, 5, 6}, m.Kind) || !plainAmounts(m.Answer.Amounts) {
		return api.Coord{}, nil, api.ErrCoordForm
	}
	next := clone(c)
	at := slices.IndexFunc(next.Trans, func(t api.Trans) bool { return t.Txn == m.Txn })
	if at < 0 {
		return api.Coord{}, nil, api.ErrCoordNone
	}
	t := &next.Trans[at]
	if m.Kind == 6 {
		if t.State == 1 {
			t.State, t.Answer.Code = 3, 4
		}
		return next, nil, api.OK
	}
	at = slices.IndexFunc(t.Peers, func(p api.Peer) bool { return p.Key == m.Key && p.Group == m.From })
	if at < 0 {
		return api.Coord{}, nil, api.ErrCoordNone
	}
	if m.Kind == 3 {
		return next, plainVote(t, &t.Peers[at], m), api.OK
	}
	plainAck(t, &t.Peers[at], m.Answer)
	return next, nil, api.OK
}

func plainVote(t *api.Trans, p *api.Peer, m api.Message) []api.Mark {
	if t.State == 1 && !m.Yes {
		t.State, t.Answer.Code = 3, m.Answer.Code
		return nil
	}
	if t.State != 1 || p.Voted {
		return nil
	}
	p.Voted = true
	t.Cells = append(t.Cells, cloneCells(m.Cells)...)
	var sum [4]int
	for _, a := range slices.Concat(t.Amounts, m.Answer.Amounts) {
		sum[a.Asset] += a.N
	}
	t.Amounts = nil
	for asset, n := range sum {
		if n != 0 {
			t.Amounts = append(t.Amounts, amount(asset, n))
		}
	}
	for _, p := range t.Peers {
		if !p.Voted {
			return nil
		}
	}
	t.State = 2
	return []api.Mark{{Txn: t.Txn, Commit: true}}
}

func plainAck(t *api.Trans, p *api.Peer, a api.Answer) {
	if t.State == 1 || p.Acked {
		return
	}
	p.Acked = true
	if t.State == 3 {
		return
	}
	if a.Num != 0 {
		t.Answer.Num = a.Num
	}
	for _, f := range a.Fills {
		t.Answer.Fills = append(t.Answer.Fills, f)
	}
	if len(a.Amounts) != 0 {
		t.Answer.Amounts = slices.Clone(a.Amounts)
	}
}

func plainEnded(c api.Coord) (api.Coord, api.Trans, bool) {
	next := clone(c)
	for i, t := range next.Trans {
		acked := 0
		for _, p := range t.Peers {
			if p.Acked {
				acked++
			}
		}
		if acked == len(t.Peers) {
			next.Trans = append(next.Trans[:i:i], next.Trans[i+1:]...)
			return next, t, true
		}
	}
	return next, api.Trans{}, false
}

func plainOut(c api.Coord) []api.Message {
	var l []api.Message
	for _, t := range c.Trans {
		for _, p := range t.Peers {
			if t.State == 1 && !p.Voted {
				l = append(l, api.Message{Kind: 2, From: c.Group, To: p.Group, Txn: t.Txn, Key: p.Key, Req: t.Req})
			} else if t.State != 1 && !p.Acked {
				l = append(l, api.Message{Kind: 4, From: c.Group, To: p.Group, Txn: t.Txn, Key: p.Key, Yes: t.State == 2, Answer: api.Answer{Amounts: t.Amounts}, Cells: t.Cells})
			}
		}
	}
	return l
}

func cloneCells(l []api.Cell) []api.Cell {
	l = slices.Clone(l)
	for i, c := range l {
		l[i].Account.Free = slices.Clone(c.Account.Free)
		l[i].Lane.Bids, l[i].Lane.Asks, l[i].Lane.Owed = slices.Clone(c.Lane.Bids), slices.Clone(c.Lane.Asks), slices.Clone(c.Lane.Owed)
	}
	return l
}

func cloneTrans(t api.Trans) api.Trans {
	t.Peers, t.Amounts, t.Cells = slices.Clone(t.Peers), slices.Clone(t.Amounts), cloneCells(t.Cells)
	t.Answer.Amounts, t.Answer.Fills = slices.Clone(t.Answer.Amounts), slices.Clone(t.Answer.Fills)
	return t
}

func clone(c api.Coord) api.Coord {
	c.Trans = slices.Clone(c.Trans)
	for i, t := range c.Trans {
		c.Trans[i] = cloneTrans(t)
	}
	return c
}

// same takes a list that is nil for one that is empty, as the words do.
func same(a, b any) bool { return reflect.DeepEqual(a, b) || fmt.Sprint(a) == fmt.Sprint(b) }

// brief keeps a failure's text short.
func brief(v any) string {
	s := fmt.Sprintf("%+v", v)
	if len(s) > 900 {
		return s[:900] + " .."
	}
	return s
}
