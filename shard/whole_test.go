package shard_test

import (
	"math/rand"
	"slices"
	"testing"

	"rialto/api"
	"rialto/model"
	"rialto/shard"
)

// hall is some groups, clients who ask, and what is under way between them.
type hall struct {
	*testing.T
	desks   []*desk
	net     []api.Message
	seqs    [7]int
	waits   [7]bool
	asked   map[api.Txn]api.Request
	at      map[api.Txn]int // how many marks there were when it was asked
	got     map[api.Txn]api.Answer
	by      map[api.Txn]int // how many there were when it was answered
	marks   []api.Mark
	endings map[api.Errno]int
}

func newHall(t *testing.T, groups int) *hall {
	h := &hall{T: t, asked: map[api.Txn]api.Request{}, at: map[api.Txn]int{}, got: map[api.Txn]api.Answer{}, by: map[api.Txn]int{}, endings: map[api.Errno]int{}}
	for group := range groups {
		h.desks = append(h.desks, newDesk(t, group, groups))
	}
	return h
}

// invoke lets a client ask, if it does not wait; a client who waits asks again.
func (h *hall) invoke(client int, r api.Request) {
	if !h.waits[client] {
		h.seqs[client]++
		x := name(client, h.seqs[client])
		h.waits[client], h.asked[x], h.at[x] = true, r, len(h.marks)
	}
	x := name(client, h.seqs[client])
	h.net = append(h.net, asks(client%len(h.desks), x, h.asked[x]))
}

func (h *hall) tick(group int) {
	h.Helper()
	h.net = append(h.net, h.desks[group].out()...)
}

func (h *hall) take(at int) api.Message {
	m := h.net[at]
	h.net = slices.Delete(h.net, at, at+1)
	return m
}

func (h *hall) deliver(m api.Message) {
	h.Helper()
	text, e := shard.Encode(m)
	back, f := shard.Decode(text)
	if e != api.OK || f != api.OK || !same(back, m) || len(text) > room(m) {
		h.Fatalf("P21.4: %s: %d bytes, %d, %s, %d", brief(m), len(text), e, brief(back), f)
	}
	if m.Kind == api.MsgAnswer {
		h.answered(m)
		return
	}
	told, marks := h.desks[m.To].hand(m)
	h.net = append(h.net, told...)
	h.marks = append(h.marks, marks...)
	h.holdCells()
}

func (h *hall) answered(m api.Message) {
	h.Helper()
	if a, met := h.got[m.Txn]; met && !same(a, m.Answer) {
		h.Fatalf("P21.2: %v is answered %v, then %v", m.Txn, a, m.Answer)
	}
	c := m.Txn.Client
	if m.Txn.Seq != h.seqs[c] || !h.waits[c] {
		return
	}
	h.waits[c], h.got[m.Txn], h.by[m.Txn] = false, m.Answer, len(h.marks)
	h.endings[m.Answer.Code]++
}

// holdCells: each key has at most one cell without a lock.
func (h *hall) holdCells() {
	h.Helper()
	free := map[api.Key]int{}
	for _, d := range h.desks {
		for _, c := range d.s.Part.Cells {
			if !slices.ContainsFunc(d.s.Part.Locks.Held, func(x api.Hold) bool { return x.Key == c.Key }) {
				free[c.Key]++
			}
		}
	}
	for key, n := range free {
		if n > 1 {
			h.Fatalf("P21.5: %v has %d cells without a lock", key, n)
		}
	}
}

// settle lets all go on, with nothing lost, until all is answered and over.
func (h *hall) settle() {
	h.Helper()
	rounds := 0
	for ; h.waits != [7]bool{} || h.runs(); rounds++ {
		if rounds > 84 {
			h.Fatalf("P21.3: %v are not answered", h.waits)
		}
		for client := range h.waits {
			if h.waits[client] {
				h.invoke(client, api.Request{})
			}
		}
		for group := range h.desks {
			h.tick(group)
		}
		for len(h.net) > 0 {
			h.deliver(h.take(0))
		}
	}
}

func (h *hall) runs() bool {
	for _, d := range h.desks {
		if len(d.s.Coord.Trans)+len(d.s.Part.Pends) > 0 {
			return true
		}
	}
	return len(h.net) > 0
}

// holdModel: the marks, one by one, are what the model does; and when all is over the cells are the model's.
func (h *hall) holdModel() {
	h.Helper()
	m := model.New()
	met := map[api.Txn]int{}
	for i, x := range h.marks {
		next, a := model.Do(m, h.asked[x.Txn])
		got, done := h.got[x.Txn]
		if i < h.at[x.Txn] || done && i >= h.by[x.Txn] {
			h.Fatalf("P21.2: %v is marked out of its time", x)
		}
		if !x.Commit {
			if a.Code != api.ErrRejected {
				h.Fatalf("P21.2: %v: the model does %+v", x, h.asked[x.Txn])
			}
			met[x.Txn] |= 2
			continue
		}
		if met[x.Txn]&1 != 0 || a.Code != api.OK || done && !same(a, got) {
			h.Fatalf("P21.2: %v of %+v: %v, where the model answers %v", x, h.asked[x.Txn], got, a)
		}
		met[x.Txn] |= 1
		m = next
	}
	for x, a := range h.got {
		rejected := a.Code == api.ErrRejected && h.asked[x].Kind != api.ReqMove
		if a.Code == api.OK != (met[x]&1 != 0) || rejected && met[x]&2 == 0 {
			h.Fatalf("P21.2: %v of %+v: %v, marked %d", x, h.asked[x], a, met[x])
		}
	}
	h.holdSame(m)
}

func (h *hall) holdSame(m api.Model) {
	h.Helper()
	cells := 0
	for _, d := range h.desks {
		for _, c := range d.s.Part.Cells {
			cells++
			if c.Key.Kind == api.KeyAccount && !same(c.Account, m.Accounts[c.Key.N-1]) || c.Key.Kind == api.KeyLane && !same(c.Lane, m.Lanes[c.Key.N-1]) {
				h.Fatalf("P21.2: %s is not the model's", brief(c))
			}
			for _, other := range h.desks {
				if p := other.place(c.Key); p.Version > c.Version || p.Version == c.Version && p.Version > 0 && p.Group != d.s.Group {
					h.Fatalf("P21.2: %v, where %s is in group %d", p, brief(c), d.s.Group)
				}
			}
			if p := d.place(c.Key); c.Version > 0 && p != place(c.Key, d.s.Group, c.Version) {
				h.Fatalf("P21.2: %v, where %s is here", p, brief(c))
			}
		}
	}
	if cells != 11 {
		h.Fatalf("P21.5: %d cells", cells)
	}
}

// someRequest fits; accounts and lanes are few, so that requests meet.
func someRequest(r *rand.Rand) api.Request {
	a, l := 1+r.Intn(3), 1+r.Intn(2)
	switch kind := []int{1, 2, 3, 3, 3, 3, 4, 5, 6, 7, 8, 9, 9, 9, 9}[r.Intn(15)]; kind {
	case api.ReqDeposit, api.ReqWithdraw:
		return api.Request{Kind: kind, Account: a, Asset: r.Intn(4), N: 1 + r.Intn(40)}
	case api.ReqOrder:
		return api.Request{Kind: kind, Account: a, Lane: l, Side: 1 + r.Intn(2), Price: 1 + r.Intn(5), N: 1 + r.Intn(5), Now: r.Intn(6) == 0}
	case api.ReqCancel:
		return api.Request{Kind: kind, Account: a, Lane: l, N: 1 + r.Intn(9)}
	case api.ReqCall, api.ReqUncross:
		return api.Request{Kind: kind, Lane: l}
	case api.ReqNet, api.ReqRead:
		return api.Request{Kind: kind, Account: a}
	}
	key := account(a)
	if r.Intn(2) == 0 {
		key = lane(l)
	}
	return move(key, r.Intn(4))
}

// TestWhole lets clients ask while messages come late, twice, turned round or not at all: what they are answered is what one machine answers.
func TestWhole(t *testing.T) {
	endings := map[api.Errno]int{}
	for seed := range int64(16) {
		r := rand.New(rand.NewSource(seed))
		h := newHall(t, 1+int(seed)%4)
		for a := 1; a <= 3; a++ {
			for asset := range 4 {
				h.invoke(a, api.Request{Kind: api.ReqDeposit, Account: a, Asset: asset, N: 500})
				h.settle()
			}
		}
		for range 3 {
			for range 180 {
				if c := 1 + r.Intn(6); !h.waits[c] || r.Intn(5) == 0 {
					h.invoke(c, someRequest(r))
				}
				if r.Intn(4) == 0 {
					h.tick(r.Intn(len(h.desks)))
				}
				for range r.Intn(6) {
					if len(h.net) == 0 {
						break
					}
					m := h.take(r.Intn(len(h.net)))
					switch r.Intn(12) {
					case 0: // it is lost
					case 1:
						h.net = append(h.net, m)
						fallthrough
					default:
						h.deliver(m)
					}
				}
				if len(h.net) > 60 {
					h.net = h.net[len(h.net)-60:]
				}
			}
			h.settle()
			h.holdModel()
		}
		for code, n := range h.endings {
			endings[code] += n
		}
	}
	for _, code := range []api.Errno{api.OK, api.ErrWounded, api.ErrMoved, api.ErrRejected} {
		if endings[code] < 50 {
			t.Errorf("too few of them tell something: %v", endings)
		}
	}
}
