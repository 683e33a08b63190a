package whole

import (
	"math/rand"
	"testing"

	"rialto/api"
	"rialto/exchange"
)

// world is an exchange of groups that are single machines.
type world struct {
	*exchange.World
	t       *testing.T
	clients int
	groups  int
	decided decisions
}

func newWorld(t *testing.T, groups, clients int) *world {
	t.Helper()
	w, e := exchange.New(groups, clients)
	if e != api.OK {
		t.Fatalf("P23.1: New(%d, %d): %d", groups, clients, e)
	}
	return &world{w, t, clients, groups, decisions{}}
}

func (w *world) invoke(client int, r api.Request) api.Errno {
	return w.Do(api.Act{Kind: api.ActInvoke, Client: client, Req: r})
}

func (w *world) round() { w.Do(api.Act{Kind: api.ActRound}) }

func (w *world) shards() []api.Shard { return w.Shards() }

func (w *world) way() []api.Message { return w.Net() }

func (w *world) events() []api.Event { return w.Events() }

func (w *world) marks() []api.Mark { return w.Marks() }

// disorder is some acts: messages come late, twice, turned round, or not at all.
func (w *world) disorder(r *rand.Rand, acts int) {
	for range acts {
		under := len(w.Net())
		switch n := r.Intn(40); {
		case n < 6:
			w.invoke(1+r.Intn(w.clients), someRequest(r))
		case n < 8:
			w.Do(api.Act{Kind: api.ActRetry, Client: 1 + r.Intn(w.clients)})
		case n < 12 && under < 80:
			w.Do(api.Act{Kind: api.ActTick, Group: r.Intn(w.groups)})
			w.decided.hold(w.t, w.Net()[under:])
		case n < 14 && under > 0:
			w.Do(api.Act{Kind: api.ActDrop, N: r.Intn(under)})
		case n < 16 && under > 0:
			w.Do(api.Act{Kind: api.ActDouble, N: r.Intn(under)})
		case under > 0:
			w.Do(api.Act{Kind: api.ActDeliver, N: r.Intn(under)})
		}
	}
}

// TestExchange: whatever messages come late, doubled, lost or turned round, the exchange is one machine, and ends.
func TestExchange(t *testing.T) {
	endings := map[api.Errno]int{}
	for seed := range int64(60) {
		r := rand.New(rand.NewSource(seed))
		w := newWorld(t, 1+int(seed)%4, 1+r.Intn(6))
		for range 6 {
			w.disorder(r, 250)
			entire(t, w, judge(t, w))
			w.inTheEnd()
			entire(t, w, judge(t, w))
		}
		for _, f := range fates(t, w) {
			endings[f.answer.Code]++
		}
	}
	for _, code := range []api.Errno{api.OK, api.ErrWounded, api.ErrMoved, api.ErrRejected} {
		if endings[code] < 50 {
			t.Errorf("too few of them tell something: %v", endings)
		}
	}
}

// inTheEnd: 12 rounds, and 12 for each client who waits, answer all: P23.6.
func (w *world) inTheEnd() {
	w.t.Helper()
	for len(w.Net()) > 200 {
		w.Do(api.Act{Kind: api.ActDrop})
	}
	p := waiting(w)
	for range 12 * (p + 1) {
		if waiting(w) == 0 {
			return
		}
		w.round()
	}
	if n := waiting(w); n > 0 {
		w.t.Fatalf("P23.6: %d of %d still wait", n, p)
	}
}
