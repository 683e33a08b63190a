package raft_test

import (
	"slices"

	"rialto/api"
	"rialto/entries"
	"rialto/net"
	"rialto/snap"
	"rialto/term"
)

// The node by the words: plain. It calls the layers below where the chapter names their calls.

func plainMayBe(n api.Node) bool {
	if n.N < 1 || n.N > 7 || n.Me < 1 || n.Me > n.N || n.Leader < 0 || n.Leader > n.N {
		return false
	}
	if !plainBallot(n.Ballot) || len(n.Ballot.Got) > n.N || entries.Check(n.Log) != 0 {
		return false
	}
	if len(n.Text) > 50000 || len(n.Text) > 0 && n.Log.Base.Index == 0 {
		return false
	}
	if n.Ballot.Role != 3 {
		return len(n.Next)+len(n.Match) == 0
	}
	if n.Leader != n.Me || len(n.Next) != n.N+1 || len(n.Match) != n.N+1 || n.Next[0] != 0 || n.Match[0] != 0 {
		return false
	}
	last := n.Log.Base.Index + len(n.Log.L)
	for node := 1; node <= n.N; node++ {
		if n.Next[node] < 1 || n.Next[node] > last+1 || n.Match[node] < 0 || n.Match[node] > last {
			return false
		}
	}
	return true
}

func plainBallot(b api.Ballot) bool {
	if b.Hard.Term < 0 || b.Hard.Term > 1000000 || b.Hard.Vote < 0 || b.Hard.Vote > 7 || b.Hard.Term == 0 && b.Hard.Vote > 0 {
		return false
	}
	if b.Role == 1 {
		return len(b.Got) == 0
	}
	if b.Role != 2 && b.Role != 3 || b.Hard.Term == 0 {
		return false
	}
	for i, node := range b.Got {
		if node < 1 || node > 7 || i > 0 && node <= b.Got[i-1] {
			return false
		}
	}
	return slices.Contains(b.Got, b.Hard.Vote)
}

// plain is a node on its way through an event.
type plain struct {
	n    api.Node
	hard []api.Record
	tail []api.Record
	snap []api.Record
	msgs []api.Msg
	out  api.Out
}

// plainStep answers the error last of all, as the program does; what else it answers with one is zero.
func plainStep(n api.Node, e api.NodeEvent) (api.Node, api.Out, api.Errno) {
	if !plainMayBe(n) {
		return api.Node{}, api.Out{}, 100
	}
	p := plain{n: plainCopy(n)}
	var errno api.Errno
	switch e.Kind {
	case 1:
		errno = p.timeout()
	case 2:
		errno = p.propose(e.Text)
	case 3:
		errno = p.message(e.Msg)
	case 4:
		errno = p.save(e.Index, e.Text)
	default:
		errno = 1
	}
	if errno != 0 {
		return api.Node{}, api.Out{}, errno
	}
	if p.n.Ballot.Hard.Term != n.Ballot.Hard.Term || p.n.Ballot.Hard.Vote != n.Ballot.Hard.Vote {
		p.hard = []api.Record{{Kind: 1, Hard: p.n.Ballot.Hard}}
	}
	p.out.Records = slices.Concat(p.hard, p.tail, p.snap)
	p.out.Msgs = p.msgs
	return p.n, p.out, 0
}

func plainCopy(n api.Node) api.Node {
	n.Ballot.Got = slices.Clone(n.Ballot.Got)
	n.Log.L = slices.Clone(n.Log.L)
	n.Next = slices.Clone(n.Next)
	n.Match = slices.Clone(n.Match)
	return n
}

func (p *plain) last() int { return p.n.Log.Base.Index + len(p.n.Log.L) }

func (p *plain) lastMark() api.Spot {
	if len(p.n.Log.L) == 0 {
		return p.n.Log.Base
	}
	return api.Spot{Index: p.last(), Term: p.n.Log.L[len(p.n.Log.L)-1].Term}
}

func (p *plain) put(m api.Msg) {
	m.From = p.n.Me
	m.Term = p.n.Ballot.Hard.Term
	p.msgs = append(p.msgs, m)
}

func (p *plain) keepTail(from int) {
	r := api.Record{Kind: 2, At: from}
	for i, e := range p.n.Log.L {
		if p.n.Log.Base.Index+1+i >= from {
			r.Entries = append(r.Entries, e)
		}
	}
	p.tail = append(p.tail, r)
}

func (p *plain) sendTo(j int) {
	base := p.n.Log.Base
	if p.n.Next[j] <= base.Index {
		p.put(api.Msg{Kind: 5, To: j, Snap: api.Snapshot{Mark: base, Text: p.n.Text}})
		return
	}
	m := api.Msg{Kind: 3, To: j, Prev: base, Commit: p.n.Log.Commit}
	for i, e := range p.n.Log.L {
		index := base.Index + 1 + i
		if index == p.n.Next[j]-1 {
			m.Prev = api.Spot{Index: index, Term: e.Term}
		}
		if index >= p.n.Next[j] && len(m.Entries) < 16 {
			m.Entries = append(m.Entries, e)
		}
	}
	p.put(m)
}

func (p *plain) sendToAll() {
	for j := 1; j <= 7; j++ {
		if j <= p.n.N && j != p.n.Me {
			p.sendTo(j)
		}
	}
}

func (p *plain) advance() {
	var match []int
	for j := 1; j <= p.n.N; j++ {
		match = append(match, p.n.Match[j])
	}
	l, e := entries.Advance(p.n.Log, p.n.Ballot.Hard.Term, match)
	if e != 0 {
		panic("Advance refuses")
	}
	p.n.Log = l
}

func (p *plain) lead() api.Errno {
	p.n.Leader = p.n.Me
	p.n.Next, p.n.Match = []int{0}, []int{0}
	for range p.n.N {
		p.n.Next = append(p.n.Next, p.last()+1)
		p.n.Match = append(p.n.Match, 0)
	}
	l, e := entries.Add(p.n.Log, api.Entry{Term: p.n.Ballot.Hard.Term, Kind: 1})
	if e != 0 {
		return 102
	}
	p.n.Log = l
	p.keepTail(p.last())
	p.n.Match[p.n.Me] = p.last()
	p.advance()
	p.out.Wait = true
	p.sendToAll()
	return 0
}

func (p *plain) timeout() api.Errno {
	if p.n.Ballot.Role == 3 {
		p.sendToAll()
		p.out.Wait = true
		return 0
	}
	b, e := term.Begin(p.n.Ballot, p.n.Me, p.n.N)
	if e == 2 {
		return 102
	}
	p.n.Ballot = b
	p.n.Leader = 0
	p.out.Wait = true
	if b.Role == 3 {
		return p.lead()
	}
	for j := 1; j <= p.n.N; j++ {
		if j != p.n.Me {
			p.put(api.Msg{Kind: 1, To: j, Prev: p.lastMark()})
		}
	}
	return 0
}

func (p *plain) propose(text string) api.Errno {
	if p.n.Ballot.Role != 3 {
		return 101
	}
	if len(text) > 4000 {
		return 2
	}
	l, e := entries.Add(p.n.Log, api.Entry{Term: p.n.Ballot.Hard.Term, Kind: 2, Text: text})
	if e != 0 {
		return 102
	}
	p.n.Log = l
	p.out.Index = p.last()
	p.keepTail(p.last())
	p.n.Match[p.n.Me] = p.last()
	p.advance()
	p.sendToAll()
	return 0
}

func (p *plain) save(index int, text string) api.Errno {
	if len(text) > 50000 {
		return 2
	}
	l, e := snap.Compact(p.n.Log, index)
	if e == 91 {
		return 91
	}
	p.n.Log = l
	p.n.Text = text
	p.snap = append(p.snap, api.Record{Kind: 3, Snap: api.Snapshot{Mark: l.Base, Text: text}})
	return 0
}

func (p *plain) message(m api.Msg) api.Errno {
	if _, e := net.Encode(m); e != 0 || m.To != p.n.Me || m.From > p.n.N {
		return 1
	}
	if m.Term > p.n.Ballot.Hard.Term {
		p.n.Ballot, _ = term.Hear(p.n.Ballot, m.Term)
		p.n.Leader = 0
		p.n.Next, p.n.Match = nil, nil
	}
	switch m.Kind {
	case 1:
		b, ok, _ := term.Grant(p.n.Ballot, api.Ask{From: m.From, Term: m.Term, Last: m.Prev}, p.lastMark())
		p.n.Ballot = b
		p.out.Wait = ok
		p.put(api.Msg{Kind: 2, To: m.From, Ok: ok})
	case 2:
		candidate := p.n.Ballot.Role == 2
		p.n.Ballot, _ = term.Count(p.n.Ballot, m.From, m.Term, m.Ok, p.n.N)
		if candidate && p.n.Ballot.Role == 3 {
			return p.lead()
		}
	case 3, 5:
		p.fromLeader(m)
	case 4:
		p.appended(m)
	}
	return 0
}

func (p *plain) fromLeader(m api.Msg) {
	if m.Term < p.n.Ballot.Hard.Term {
		p.put(api.Msg{Kind: 4, To: m.From})
		return
	}
	if p.n.Ballot.Role == 3 {
		return
	}
	p.n.Ballot.Role = 1
	p.n.Ballot.Got = nil
	p.n.Leader = m.From
	p.n.Next, p.n.Match = nil, nil
	p.out.Wait = true
	if m.Kind == 5 {
		l, ok, _ := snap.Install(p.n.Log, m.Snap.Mark)
		p.n.Log = l
		if ok {
			p.n.Text = m.Snap.Text
			p.snap = append(p.snap, api.Record{Kind: 3, Snap: m.Snap})
		}
		p.put(api.Msg{Kind: 4, To: m.From, Ok: true, Match: min(m.Snap.Mark.Index, l.Commit)})
		return
	}
	was := p.n.Log
	l, match, ok, e := entries.Accept(was, m.Prev, m.Entries, m.Commit)
	switch {
	case e != 0:
		p.put(api.Msg{Kind: 4, To: m.From, Match: was.Commit})
	case !ok:
		p.put(api.Msg{Kind: 4, To: m.From, Match: max(0, min(p.last(), m.Prev.Index-1))})
	default:
		p.n.Log = l
		for i := range 401 {
			had, has := i < len(was.L), i < len(l.L)
			if had != has || had && was.L[i] != l.L[i] {
				p.keepTail(l.Base.Index + 1 + i)
				break
			}
		}
		p.put(api.Msg{Kind: 4, To: m.From, Ok: true, Match: match})
	}
}

func (p *plain) appended(m api.Msg) {
	if p.n.Ballot.Role != 3 || m.Term != p.n.Ballot.Hard.Term || m.Match > p.last() {
		return
	}
	next, match := &p.n.Next[m.From], &p.n.Match[m.From]
	if !m.Ok {
		if m.Match+1 < *next {
			*next = m.Match + 1
		}
		if *next < *match+1 {
			*next = *match + 1
		}
		if *next < 1 {
			*next = 1
		}
		p.sendTo(m.From)
		return
	}
	if m.Match > *match {
		*match = m.Match
	}
	if *match+1 > *next {
		*next = *match + 1
	}
	if *next > p.last()+1 {
		*next = p.last() + 1
	}
	p.advance()
	if *next <= p.last() {
		p.sendTo(m.From)
	}
}
