// Package lobby is what exchange and cluster have beside their groups: clients who ask and wait, what is under way, and what clients and marks have come to.
package lobby

import (
	"slices"

	"rialto/api"
	"rialto/fresh"
	"rialto/shard"
)

const (
	maxUnderWay = 1000
	outside     = -1 // stands in a message for the client who asks
)

// Lobby is clients, messages under way, events and marks.
type Lobby struct {
	groups  int
	clients []client // the first one is client 1
	way     []api.Message
	events  []api.Event
	marks   []api.Mark
}

// client is how many requests one has made, and the last one, for which it waits or not.
type client struct {
	made  int
	waits bool
	last  api.Request
}

// New has clients who have made no request; nothing is under way.
func New(groups int, clients int) *Lobby {
	return &Lobby{groups: groups, clients: make([]client, clients)}
}

// Has tells whether there is such a client. The other calls that name one are asked of those that there are.
func (l *Lobby) Has(client int) bool { return client >= 1 && client <= len(l.clients) }

// Invoke lets a client make one more request.
func (l *Lobby) Invoke(client int, r api.Request) api.Errno {
	c := l.client(client)
	switch {
	case !fits(r):
		return api.ErrArg
	case c.waits:
		return api.ErrBusy
	case c.made == api.MaxSeq:
		return api.ErrLong
	}
	c.made++
	c.waits = true
	c.last = r
	l.events = append(l.events, api.Event{Txn: l.txn(client), Req: r, At: len(l.marks)})
	l.ask(client)
	return api.OK
}

// Retry lets a client who waits ask again.
func (l *Lobby) Retry(client int) api.Errno {
	if !l.client(client).waits {
		return api.ErrArg
	}
	l.ask(client)
	return api.OK
}

// RetryAll lets all clients ask again who wait.
func (l *Lobby) RetryAll() {
	for i := range l.clients {
		l.Retry(i + 1)
	}
}

// Hear lets a client be answered, if that is what it waits for.
func (l *Lobby) Hear(m api.Message) {
	client := m.Txn.Client
	if !l.Has(client) || !l.client(client).waits || m.Txn != l.txn(client) {
		return
	}
	c := l.client(client)
	c.waits = false
	l.events = append(l.events, api.Event{Txn: m.Txn, Req: c.last, Answered: true, Answer: m.Answer, At: len(l.marks)})
}

// Mark puts marks behind the others.
func (l *Lobby) Mark(marks ...api.Mark) { l.marks = append(l.marks, marks...) }

// Events are what clients asked and were answered, Marks the serial order.
func (l *Lobby) Events() []api.Event { return fresh.List(l.events, fresh.Event) }

func (l *Lobby) Marks() []api.Mark { return slices.Clone(l.marks) }

func (l *Lobby) client(n int) *client { return &l.clients[n-1] }

// txn is a client's last request.
func (l *Lobby) txn(client int) api.Txn {
	return api.Txn{Client: client, Seq: l.client(client).made}
}

// ask sends what a client waits for to its home.
func (l *Lobby) ask(client int) {
	l.Send(api.Message{Kind: api.MsgAsk, From: outside, To: client % l.groups, Txn: l.txn(client), Req: l.client(client).last})
}

// fits lets shard write it: nothing but the request can be unfit in such a message.
func fits(r api.Request) bool {
	_, e := shard.Encode(api.Message{Kind: api.MsgAsk, From: outside, Txn: api.Txn{Client: 1, Seq: 1}, Req: r})
	return e == api.OK
}
