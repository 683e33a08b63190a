package exchange_test

import (
	"fmt"
	"reflect"
	"slices"
	"testing"

	"rialto/api"
	"rialto/exchange"
	"rialto/session"
	"rialto/shard"
)

// A world as the chapter's words say it. What a group does is asked of shard.

type plainWorld struct {
	shards  []api.Shard
	clients int
	made    map[int]int
	waits   map[int]bool
	last    map[int]api.Request
	way     []api.Message
	events  []api.Event
	marks   []api.Mark
}

func newPlain(groups, clients int) *plainWorld {
	p := &plainWorld{clients: clients, made: map[int]int{}, waits: map[int]bool{}, last: map[int]api.Request{}}
	for g := range groups {
		s, _ := shard.New(g, groups)
		p.shards = append(p.shards, s)
	}
	return p
}

func (p *plainWorld) send(l ...api.Message) {
	for _, m := range l {
		if len(p.way) < 1000 {
			p.way = append(p.way, m)
		}
	}
}

func (p *plainWorld) do(a api.Act) api.Errno {
	isClient := a.Client >= 1 && a.Client <= p.clients
	isGroup := a.Group >= 0 && a.Group < len(p.shards)
	isMessage := a.N >= 0 && a.N < len(p.way)
	x := api.Txn{Client: a.Client, Seq: p.made[a.Client]}
	switch a.Kind {
	default:
		return api.ErrExchangeAct
	case 1:
		switch {
		case !isClient:
			return api.ErrExchangeAct
		case !session.Fits(a.Req):
			return api.ErrArg
		case p.waits[a.Client]:
			return api.ErrBusy
		case x.Seq >= 100000:
			return api.ErrLong
		}
		x.Seq++
		p.made[a.Client], p.waits[a.Client], p.last[a.Client] = x.Seq, true, a.Req
		p.events = append(p.events, api.Event{Txn: x, Req: a.Req, At: len(p.marks)})
		p.ask(x)
	case 2:
		switch {
		case !isClient:
			return api.ErrExchangeAct
		case !p.waits[a.Client]:
			return api.ErrArg
		}
		p.ask(x)
	case 3:
		if !isGroup {
			return api.ErrExchangeAct
		}
		p.send(shard.Out(p.shards[a.Group])...)
	case 4, 5:
		if !isMessage {
			return api.ErrArg
		}
		m := p.way[a.N]
		p.way = append(slices.Clone(p.way[:a.N]), p.way[a.N+1:]...)
		if a.Kind == 4 {
			p.deliver(m)
		}
	case 6:
		switch {
		case !isMessage:
			return api.ErrArg
		case len(p.way) >= 1000:
			return api.ErrLong
		}
		p.send(p.way[a.N])
	case 7:
		p.round()
	}
	return api.OK
}

func (p *plainWorld) ask(x api.Txn) {
	p.send(api.Message{Kind: 1, From: -1, To: x.Client % len(p.shards), Txn: x, Req: p.last[x.Client]})
}

func (p *plainWorld) deliver(m api.Message) {
	c := m.Txn.Client
	switch {
	case m.Kind == 7 && p.waits[c] && m.Txn.Seq == p.made[c]:
		p.waits[c] = false
		p.events = append(p.events, api.Event{Txn: m.Txn, Req: p.last[c], Answered: true, Answer: m.Answer, At: len(p.marks)})
	case m.Kind != 7 && m.To >= 0 && m.To < len(p.shards):
		s, told, marks := shard.Apply(p.shards[m.To], m)
		p.shards[m.To] = s
		p.send(told...)
		p.marks = append(p.marks, marks...)
	}
}

func (p *plainWorld) round() {
	for c := 1; c <= p.clients; c++ {
		if p.waits[c] {
			p.do(api.Act{Kind: 2, Client: c})
		}
	}
	for g := range p.shards {
		p.do(api.Act{Kind: 3, Group: g})
	}
	for len(p.way) > 0 {
		p.do(api.Act{Kind: 4})
	}
}

// brief cuts off what nobody would read.
func brief(x any) string {
	s := fmt.Sprintf("%+v", x)
	return s[:min(len(s), 600)]
}

// same holds two against each other by what they show: there an empty list is nil or not.
func same[T any](a, b T) bool {
	return reflect.DeepEqual(a, b) || fmt.Sprintf("%+v", a) == fmt.Sprintf("%+v", b)
}

// pair is a world and a plain one beside it, to which all acts go alike.
type pair struct {
	t *testing.T
	w *exchange.World
	p *plainWorld
}

func newPair(t *testing.T, groups, clients int) *pair {
	t.Helper()
	w, e := exchange.New(groups, clients)
	if e != api.OK {
		t.Fatalf("P23.1: New(%d, %d): %d", groups, clients, e)
	}
	q := &pair{t, w, newPlain(groups, clients)}
	q.hold("New")
	return q
}

// hold looks at all that a world tells.
func (q *pair) hold(behind any) {
	q.t.Helper()
	if l := q.w.Shards(); !same(l, q.p.shards) {
		q.t.Fatalf("P23.3: behind %s the groups are %s, want %s", brief(behind), brief(l), brief(q.p.shards))
	}
	if l := q.w.Net(); !same(l, q.p.way) {
		q.t.Fatalf("P23.3: behind %s %d are under way, want %d: %s, want %s", brief(behind), len(l), len(q.p.way), brief(l), brief(q.p.way))
	}
	if l := q.w.Events(); !same(l, q.p.events) {
		q.t.Fatalf("P23.3: behind %s %d events, want %d: %s, want %s", brief(behind), len(l), len(q.p.events), brief(l), brief(q.p.events))
	}
	if l := q.w.Marks(); !slices.Equal(l, q.p.marks) {
		q.t.Fatalf("P23.3: behind %s the marks are %s, want %s", brief(behind), brief(l), brief(q.p.marks))
	}
}

func (q *pair) do(a api.Act) api.Errno {
	q.t.Helper()
	e := q.w.Do(a)
	if f := q.p.do(a); e != f {
		q.t.Fatalf("P23.2: %s: %d, want %d", brief(a), e, f)
	}
	q.hold(a)
	return e
}

// must does an act of which the answer is known.
func (q *pair) must(a api.Act, want api.Errno) {
	q.t.Helper()
	if e := q.do(a); e != want {
		q.t.Fatalf("P23.2: %s: %d, want %d", brief(a), e, want)
	}
}

// answered lets a client ask, and rounds go by till it is answered.
func (q *pair) answered(client int, r api.Request) api.Answer {
	q.t.Helper()
	q.must(api.Act{Kind: api.ActInvoke, Client: client, Req: r}, api.OK)
	for range 24 {
		q.must(api.Act{Kind: api.ActRound}, api.OK)
		l := q.w.Events()
		if last := l[len(l)-1]; last.Answered {
			return last.Answer
		}
	}
	q.t.Fatalf("P23.6: %s is not answered", brief(r))
	return api.Answer{}
}
