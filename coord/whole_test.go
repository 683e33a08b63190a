package coord_test

import (
	"math/rand"
	"slices"
	"testing"

	"rialto/api"
	"rialto/book"
	"rialto/coord"
	"rialto/part"
	"rialto/session"
	"rialto/shardmap"
)

const halls = 3

// fair is some groups, each a coordinator and a participant, and what is under way between them; where keys are is learned by marks.
type fair struct {
	*testing.T
	hubs    [halls]api.Coord
	desks   [halls]api.Part
	net     []api.Message
	places  []api.Place
	asked   map[api.Txn]api.Request
	runs    [7]api.Txn // by clients: the zero one, where none does
	seqs    [7]int
	marks   map[api.Txn]int
	told    map[api.Txn]bool // whether a decision was with Yes
	put     [4]int           // in, less what was taken out
	endings map[api.Errno]int
}

func newFair(t *testing.T) *fair {
	f := &fair{T: t, asked: map[api.Txn]api.Request{}, marks: map[api.Txn]int{}, told: map[api.Txn]bool{}, endings: map[api.Errno]int{}}
	for group := range halls {
		var own []api.Key
		for i := range 11 {
			key := account(i + 1)
			if i >= 8 {
				key = lane(i - 7)
			}
			if home, _ := shardmap.Home(key, halls); home == group {
				own = append(own, key)
			}
		}
		f.hubs[group], _ = coord.New(group)
		f.desks[group], _ = part.New(group, own)
	}
	return f
}

func (f *fair) owner(key api.Key) api.Place {
	f.Helper()
	p, e := shardmap.Owner(f.places, key, halls)
	if e != api.OK {
		f.Fatalf("P20.2: %v, %v: %d", f.places, key, e)
	}
	return p
}

func (f *fair) begin(client int, r api.Request) {
	f.Helper()
	if f.runs[client] != (api.Txn{}) || r.Kind == api.ReqMove && f.owner(r.Key).Group == r.To {
		return
	}
	f.seqs[client]++
	t := name(client, f.seqs[client])
	var peers []api.Peer
	for _, key := range session.Keys(r) {
		peers = append(peers, peer(key, f.owner(key).Group))
	}
	if r.Kind == api.ReqMove {
		peers = append(peers, peer(r.Key, r.To))
	}
	next, e := coord.Begin(f.hubs[client%halls], t, r, peers)
	if e != api.OK {
		f.Fatalf("P19.2: %v, %v, %v: %d", t, r, peers, e)
	}
	f.hubs[client%halls], f.runs[client], f.asked[t] = next, t, r
}

func (f *fair) tick(group int) {
	f.Helper()
	for _, m := range coord.Out(f.hubs[group]) {
		if yes, known := f.told[m.Txn]; m.Kind == api.MsgFinish && known && yes != m.Yes {
			f.Fatalf("P19.6: %v was decided twice", m.Txn)
		} else if m.Kind == api.MsgFinish {
			f.told[m.Txn] = m.Yes
		}
		f.net = append(f.net, m)
	}
	f.net = append(f.net, part.Out(f.desks[group])...)
}

func (f *fair) take(at int) api.Message {
	m := f.net[at]
	f.net = slices.Delete(f.net, at, at+1)
	return m
}

func (f *fair) deliver(m api.Message) {
	f.Helper()
	if m.Kind == api.MsgPrepare || m.Kind == api.MsgFinish {
		call := part.Prepare
		if m.Kind == api.MsgFinish {
			call = part.Finish
		}
		next, told, _, e := call(f.desks[m.To], m)
		if e != api.OK {
			f.Fatalf("P19.5: %s is refused: %d", brief(m), e)
		}
		f.desks[m.To] = next
		f.net = append(f.net, told...)
		return
	}
	next, marks, e := coord.Hear(f.hubs[m.To], m)
	if e == api.ErrCoordNone {
		return
	}
	if e != api.OK {
		f.Fatalf("P19.3: %s is refused: %d", brief(m), e)
	}
	f.hubs[m.To] = next
	for _, x := range marks {
		f.mark(x)
	}
	for over := true; over; {
		over = f.end(m.To)
	}
}

func (f *fair) mark(x api.Mark) {
	f.Helper()
	f.marks[x.Txn]++
	if !x.Commit || f.marks[x.Txn] > 1 {
		f.Fatalf("P19.6: %v", x)
	}
	switch r := f.asked[x.Txn]; r.Kind {
	case api.ReqDeposit:
		f.put[r.Asset] += r.N
	case api.ReqWithdraw:
		f.put[r.Asset] -= r.N
	case api.ReqMove:
		p := f.owner(r.Key)
		p.Group = r.To
		p.Version++
		l, e := shardmap.Learn(f.places, p)
		if e != api.OK {
			f.Fatalf("P20.3: %v, %v: %d", f.places, p, e)
		}
		f.places = l
	}
}

func (f *fair) end(group int) bool {
	f.Helper()
	next, t, ok := coord.Ended(f.hubs[group])
	if !ok {
		return false
	}
	f.hubs[group] = next
	commits := t.State == api.TransCommits
	if (f.marks[t.Txn] == 1) != commits || f.told[t.Txn] != commits || (t.Answer.Code == api.OK) != commits || f.runs[t.Txn.Client] != t.Txn || t.Req != f.asked[t.Txn] {
		f.Fatalf("P19.4: %s", brief(t))
	}
	// an order that was placed has its number
	if commits && t.Req.Kind == api.ReqOrder && t.Answer.Num == 0 {
		f.Fatalf("P19.3: %s", brief(t))
	}
	f.runs[t.Txn.Client] = api.Txn{}
	f.endings[t.Answer.Code]++
	return true
}

// settle lets all go on, with nothing lost, until all is over.
func (f *fair) settle() {
	f.Helper()
	for rounds := 0; f.runs != [7]api.Txn{}; rounds++ {
		if rounds > 84 {
			f.Fatalf("P19.5: %v are not over", f.runs)
		}
		for group := range halls {
			f.tick(group)
		}
		for len(f.net) > 0 {
			f.deliver(f.take(0))
		}
	}
}

// hold: when all is over, each key has one cell, where it was learned to be, nothing is locked, and what all have is what was put in.
func (f *fair) hold() {
	f.Helper()
	var sum [4]int
	cells := 0
	for group, p := range f.desks {
		if len(p.Pends)+len(p.Locks.Held)+len(p.Locks.Wait)+len(f.hubs[group].Trans) != 0 {
			f.Fatalf("P19.4: %s, %s", brief(p), brief(f.hubs[group]))
		}
		for _, c := range p.Cells {
			cells++
			if at := f.owner(c.Key); at.Group != group || at.Version != c.Version {
				f.Fatalf("P19.5: %v is in %d, not at %v", c, group, at)
			}
			for _, a := range c.Account.Free {
				sum[a.Asset] += a.N
			}
			if c.Key.Kind == api.KeyLane {
				money, goods, _ := book.Holds(c.Lane)
				sum[0] += money
				sum[c.Key.N] += goods
			}
		}
	}
	if cells != 11 || sum != f.put {
		f.Fatalf("P19.5: %d cells have %v of %v", cells, sum, f.put)
	}
}

// someRequest fits; accounts and lanes are few, so that requests meet.
func someRequest(r *rand.Rand) api.Request {
	a, l := 1+r.Intn(3), 1+r.Intn(2)
	switch kind := []int{1, 2, 3, 3, 3, 4, 7, 8, 9}[r.Intn(9)]; kind {
	case api.ReqDeposit, api.ReqWithdraw:
		return api.Request{Kind: kind, Account: a, Asset: r.Intn(4), N: 1 + r.Intn(40)}
	case api.ReqOrder:
		return api.Request{Kind: kind, Account: a, Lane: l, Side: 1 + r.Intn(2), Price: 1 + r.Intn(5), N: 1 + r.Intn(5)}
	case api.ReqCancel:
		return api.Request{Kind: kind, Account: a, Lane: l, N: 1 + r.Intn(9)}
	case api.ReqNet, api.ReqRead:
		return api.Request{Kind: kind, Account: a}
	}
	key := account(a)
	if r.Intn(2) == 0 {
		key = lane(l)
	}
	return api.Request{Kind: api.ReqMove, Key: key, To: r.Intn(halls)}
}

// TestWhole lets clients ask while messages come late, twice, turned round or not at all: what is decided is done at all keys or at none, and once.
func TestWhole(t *testing.T) {
	endings := map[api.Errno]int{}
	for seed := range int64(30) {
		r := rand.New(rand.NewSource(seed))
		f := newFair(t)
		for a := 1; a <= 3; a++ {
			for asset := range 4 {
				f.begin(a, api.Request{Kind: api.ReqDeposit, Account: a, Asset: asset, N: 500})
				f.settle()
			}
		}
		for range 8 {
			for range 300 {
				f.begin(1+r.Intn(6), someRequest(r))
				if r.Intn(3) == 0 {
					f.tick(r.Intn(halls))
				}
				for range r.Intn(4) {
					if len(f.net) == 0 {
						break
					}
					m := f.take(r.Intn(len(f.net)))
					switch r.Intn(8) {
					case 0: // it is lost
					case 1:
						f.net = append(f.net, m)
						fallthrough
					default:
						f.deliver(m)
					}
				}
				if len(f.net) > 60 {
					f.net = f.net[len(f.net)-60:]
				}
			}
			f.settle()
			f.hold()
		}
		for code, n := range f.endings {
			endings[code] += n
		}
	}
	for _, code := range []api.Errno{api.OK, api.ErrWounded, api.ErrMoved, api.ErrRejected} {
		if endings[code] < 100 {
			t.Errorf("too few of them tell something: %v", endings)
		}
	}
}
