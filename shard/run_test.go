package shard_test

import (
	"math/rand"
	"testing"

	"rialto/api"
	"rialto/book"
	"rialto/session"
)

// someCell may be; its Version is often beside the last one.
func someCell(r *rand.Rand, key api.Key) api.Cell {
	c := api.Cell{Key: key, Version: []int{0, 1, 2, 3, 999998, 999999, 1000000}[r.Intn(7)]}
	if key.Kind == api.KeyAccount {
		c.Account = api.Account{Free: amounts(amount(0, 100+r.Intn(100)), amount(1, 50), amount(2, 50)), Count: r.Intn(9)}
		return c
	}
	c.Lane = book.New()
	for range r.Intn(9) {
		if l, _, _, e := book.Place(c.Lane, 1+r.Intn(3), 1+r.Intn(2), 1+r.Intn(9), 1+r.Intn(9), false); e == api.OK {
			c.Lane = l
		}
	}
	return c
}

// someMessage comes to a group from anywhere, be it of one of its transactions or not.
func someMessage(r *rand.Rand, s api.Shard, asked map[api.Txn]api.Request) api.Message {
	x := name(1+r.Intn(6), 1+r.Intn(9))
	if _, met := asked[x]; !met {
		asked[x] = someRequest(r)
	}
	m := api.Message{Kind: 1 + r.Intn(7), From: r.Intn(4), To: s.Group, Txn: x, Req: asked[x]}
	keys := session.Keys(m.Req)
	key := keys[r.Intn(len(keys))]
	yes := r.Intn(4) > 0
	switch m.Kind {
	case api.MsgAsk:
		m.From = -1
		for _, l := range s.Sessions {
			if l.Done && r.Intn(3) > 0 {
				m.Txn = name(l.Client, l.Seq+1)
			}
		}
	case api.MsgPrepare:
		m.Key = key
	case api.MsgVote:
		m.Key, m.Yes = key, yes
		m.Answer.Code = api.Errno([]int{0, 3, 5, 5, 5, 6, 999}[r.Intn(7)])
		m.Req = []api.Request{{}, move(key, r.Intn(4))}[r.Intn(2)]
		m.Answer.Num = []int{0, 1, 2, 9, 1000000}[r.Intn(5)]
	case api.MsgFinish:
		m.Key, m.Yes, m.Req = key, yes, api.Request{}
	case api.MsgAck:
		m.Key, m.Req = key, api.Request{}
	default:
		m.Req = api.Request{}
	}
	aim(r, s, &m)
	if (m.Kind == api.MsgVote || m.Kind == api.MsgFinish) && r.Intn(2) == 0 {
		m.Cells = []api.Cell{someCell(r, m.Key)}
	}
	return m
}

// aim lets a message often be of what the group has to do.
func aim(r *rand.Rand, s api.Shard, m *api.Message) {
	if r.Intn(4) == 0 {
		return
	}
	if n := len(s.Part.Pends); m.Kind == api.MsgFinish && n > 0 {
		x := s.Part.Pends[r.Intn(n)]
		m.Txn, m.Key, m.From = x.Txn, x.Key, x.Home
	}
	if n := len(s.Coord.Trans); n > 0 && (m.Kind == api.MsgVote || m.Kind == api.MsgAck) {
		x := s.Coord.Trans[r.Intn(n)]
		p := x.Peers[r.Intn(len(x.Peers))]
		m.Txn, m.Key, m.From = x.Txn, p.Key, p.Group
	}
}

// TestRuns hands in messages of all kinds, such as no group would tell: all of it goes by the words, and what comes again changes nothing.
func TestRuns(t *testing.T) {
	times := map[string]int{}
	for seed := range int64(40) {
		r := rand.New(rand.NewSource(seed))
		groups := 1 + r.Intn(4)
		d := newDesk(t, r.Intn(groups), groups)
		asked := map[api.Txn]api.Request{}
		for range 250 {
			m := someMessage(r, d.s, asked)
			known := len(d.s.Map)
			told, marks := d.hand(m)
			for _, x := range told {
				times["told "+string(rune('0'+x.Kind))]++
				if x.Kind == api.MsgVote && x.Answer.Code == api.ErrMoved {
					times["moved"]++
				}
			}
			times["marks"] += len(marks)
			times["places"] += len(d.s.Map) - known
			times["out"] += len(d.out())
			was := clone(d.s)
			again, none := d.hand(m)
			if !same(d.s, was) || len(none) != 0 || m.Kind == api.MsgFinish && !same(again, told) {
				t.Fatalf("P21.2: %s came again: %s, %v, %v", brief(m), brief(d.s), again, none)
			}
			if r.Intn(20) == 0 {
				turned(m, func(x api.Message) {
					if r.Intn(100) == 0 {
						d.hand(x)
					}
				})
			}
		}
	}
	for _, what := range []string{"told 3", "told 5", "told 7", "moved", "marks", "places"} {
		if times[what] < 100 {
			t.Errorf("too few of them tell something: %v", times)
		}
	}
}
