package cluster_test

import (
	"fmt"
	"reflect"
	"slices"
	"strings"
	"testing"

	"rialto/api"
	"rialto/cluster"
	"rialto/group"
	"rialto/session"
	"rialto/shard"
)

// A cluster as the chapter's words say it. What groups of nodes do is asked of group, what letters make of a state of shard.

type plainNode struct {
	state api.Shard
	taken int
}

type plainCluster struct {
	c      api.ClusterConfig
	groups []*group.Group
	nodes  []map[int]*plainNode // of each group those that are up
	met    []int                // of each group how many entries some node has taken in
	made   map[int]int
	waits  map[int]bool
	last   map[int]api.Request
	way    []api.Message
	events []api.Event
	marks  []api.Mark
}

func newPlain(c api.ClusterConfig) *plainCluster {
	p := &plainCluster{c: c, met: make([]int, c.Groups), made: map[int]int{}, waits: map[int]bool{}, last: map[int]api.Request{}}
	for g := range c.Groups {
		x, _ := group.New(api.GroupConfig{Nodes: c.Nodes, Disk: 1048576, Room: 500})
		p.groups = append(p.groups, x)
		p.nodes = append(p.nodes, map[int]*plainNode{})
		p.takeIn(g)
	}
	return p
}

func (p *plainCluster) send(l ...api.Message) {
	for _, m := range l {
		if len(p.way) < 1000 {
			p.way = append(p.way, m)
		}
	}
}

func (p *plainCluster) leads(g, node int) bool {
	return p.groups[g].Up(node) && p.groups[g].Node(node).Ballot.Role == api.RoleLeader
}

// takeIn stands behind each thing that happens in a group.
func (p *plainCluster) takeIn(g int) {
	for node := 1; node <= p.c.Nodes; node++ {
		if !p.groups[g].Up(node) {
			delete(p.nodes[g], node)
			continue
		}
		if p.nodes[g][node] == nil {
			s, _ := shard.New(g, p.c.Groups)
			p.nodes[g][node] = &plainNode{state: s}
		}
		n := p.nodes[g][node]
		known := p.groups[g].Known(node)
		for n.taken < len(known) {
			e := known[n.taken]
			n.taken++
			first := n.taken > p.met[g]
			p.met[g] = max(p.met[g], n.taken)
			if e.Kind != api.EntryCommand {
				continue
			}
			m, errno := shard.Decode(e.Text)
			if errno != api.OK {
				panic("an entry that is no message's")
			}
			s, told, marks := shard.Apply(n.state, m)
			n.state = s
			if first {
				p.marks = append(p.marks, marks...)
			}
			if p.leads(g, node) {
				p.send(told...)
			}
		}
	}
}

func (p *plainCluster) group(g int, a api.GroupAct) api.Errno {
	_, e := p.groups[g].Do(a)
	p.takeIn(g)
	return e
}

func (p *plainCluster) hand(m api.Message, node int) {
	if node < 1 || node > p.c.Nodes || !p.leads(m.To, node) {
		return
	}
	was := p.nodes[m.To][node].state
	is, told, marks := shard.Apply(was, m)
	if same(is, was) && len(marks) == 0 {
		p.send(told...)
		return
	}
	text, _ := shard.Encode(m)
	p.group(m.To, api.GroupAct{Kind: api.GrPropose, Node: node, Text: text})
}

func (p *plainCluster) do(a api.ClusterAct) api.Errno {
	isClient := a.Client >= 1 && a.Client <= p.c.Clients
	isGroup := a.Group >= 0 && a.Group < p.c.Groups
	isLetter := a.N >= 0 && a.N < len(p.way)
	x := api.Txn{Client: a.Client, Seq: p.made[a.Client]}
	switch a.Kind {
	default:
		return api.ErrClusterAct
	case 1:
		switch {
		case !isClient:
			return api.ErrClusterAct
		case !session.Fits(a.Req):
			return api.ErrArg
		case p.waits[a.Client]:
			return api.ErrBusy
		}
		x.Seq++
		p.made[a.Client], p.waits[a.Client], p.last[a.Client] = x.Seq, true, a.Req
		p.events = append(p.events, api.Event{Txn: x, Req: a.Req, At: len(p.marks)})
		p.ask(x)
	case 2:
		switch {
		case !isClient:
			return api.ErrClusterAct
		case !p.waits[a.Client]:
			return api.ErrArg
		}
		p.ask(x)
	case 3:
		if !isGroup || a.Act.Kind == api.GrPropose || a.Act.Kind == api.GrSave {
			return api.ErrClusterAct
		}
		return p.group(a.Group, a.Act)
	case 4:
		if !isGroup {
			return api.ErrClusterAct
		}
		p.tick(a.Group)
	case 5, 6:
		if !isLetter {
			return api.ErrArg
		}
		m := p.take(a.N)
		if a.Kind == 5 && m.Kind == api.MsgAnswer {
			p.hear(m)
		} else if a.Kind == 5 {
			p.hand(m, a.Node)
		}
	case 7:
		switch {
		case !isLetter:
			return api.ErrArg
		case len(p.way) >= 1000:
			return api.ErrLong
		}
		p.send(p.way[a.N])
	case 8:
		p.round()
	}
	return api.OK
}

func (p *plainCluster) take(n int) api.Message {
	m := p.way[n]
	p.way = append(slices.Clone(p.way[:n]), p.way[n+1:]...)
	return m
}

func (p *plainCluster) ask(x api.Txn) {
	p.send(api.Message{Kind: api.MsgAsk, From: -1, To: x.Client % p.c.Groups, Txn: x, Req: p.last[x.Client]})
}

func (p *plainCluster) hear(m api.Message) {
	c := m.Txn.Client
	if p.waits[c] && m.Txn.Seq == p.made[c] {
		p.waits[c] = false
		p.events = append(p.events, api.Event{Txn: m.Txn, Req: p.last[c], Answered: true, Answer: m.Answer, At: len(p.marks)})
	}
}

func (p *plainCluster) tick(g int) {
	for node := 1; node <= p.c.Nodes; node++ {
		if p.leads(g, node) {
			p.send(shard.Out(p.nodes[g][node].state)...)
		}
	}
}

func (p *plainCluster) deliverAll(g int) {
	for len(p.groups[g].Net()) > 0 {
		p.group(g, api.GroupAct{Kind: api.GrDeliver})
	}
}

func (p *plainCluster) round() {
	for client := 1; client <= p.c.Clients; client++ {
		if p.waits[client] {
			p.do(api.ClusterAct{Kind: api.ClRetry, Client: client})
		}
	}
	for g := range p.groups {
		p.group(g, api.GroupAct{Kind: api.GrTick})
		p.deliverAll(g)
	}
	for g := range p.groups {
		p.tick(g)
	}
	for len(p.way) > 0 {
		m := p.take(0)
		if m.Kind == api.MsgAnswer {
			p.hear(m)
			continue
		}
		for node := 1; node <= p.c.Nodes; node++ {
			p.hand(m, node)
		}
		p.deliverAll(m.To)
	}
}

// brief cuts off what nobody would read, and leaves entries' bytes out.
func brief(x any) string {
	s := strings.Map(func(r rune) rune {
		if r < ' ' || r > '~' {
			return '.'
		}
		return r
	}, fmt.Sprintf("%+v", x))
	return s[:min(len(s), 600)]
}

// same holds two against each other by what they show: there an empty list is nil or not.
func same[T any](a, b T) bool {
	return reflect.DeepEqual(a, b) || fmt.Sprintf("%+v", a) == fmt.Sprintf("%+v", b)
}

// pair is a cluster and a plain one beside it, to which all acts go alike.
type pair struct {
	t *testing.T
	c *cluster.Cluster
	p *plainCluster
}

func newPair(t *testing.T, groups, nodes, clients int) *pair {
	t.Helper()
	config := api.ClusterConfig{Groups: groups, Nodes: nodes, Clients: clients}
	c, e := cluster.New(config)
	if e != api.OK {
		t.Fatalf("P24.1: New(%v): %d", config, e)
	}
	q := &pair{t, c, newPlain(config)}
	q.hold("New")
	return q
}

// hold looks at all that a cluster tells.
func (q *pair) hold(behind any) {
	q.t.Helper()
	for g := -1; g <= q.p.c.Groups; g++ {
		for node := -1; node <= q.p.c.Nodes+1; node++ {
			q.holdNode(g, node, behind)
		}
	}
	if l := q.c.Letters(); !same(l, q.p.way) {
		q.t.Fatalf("P24.3: behind %s %d letters, want %d: %s, want %s", brief(behind), len(l), len(q.p.way), brief(l), brief(q.p.way))
	}
	if l := q.c.Events(); !same(l, q.p.events) {
		q.t.Fatalf("P24.3: behind %s %d events, want %d: %s, want %s", brief(behind), len(l), len(q.p.events), brief(l), brief(q.p.events))
	}
	if l := q.c.Marks(); !slices.Equal(l, q.p.marks) {
		q.t.Fatalf("P24.3: behind %s the marks are %s, want %s", brief(behind), brief(l), brief(q.p.marks))
	}
}

func (q *pair) holdNode(g, node int, behind any) {
	q.t.Helper()
	var want plainNode
	var is api.Node
	up := false
	if g >= 0 && g < q.p.c.Groups {
		is = q.p.groups[g].Node(node)
		if n := q.p.nodes[g][node]; n != nil {
			want, up = *n, true
		}
	}
	if s, n, ok := q.c.State(g, node); ok != up || n != want.taken || !same(s, want.state) {
		q.t.Fatalf("P24.3: behind %s node %d of group %d: %s, %d, %t, want %s, %d, %t", brief(behind), node, g, brief(s), n, ok, brief(want.state), want.taken, up)
	}
	if n := q.c.Node(g, node); !same(n, is) {
		q.t.Fatalf("P24.3: behind %s node %d of group %d is %s, want %s", brief(behind), node, g, brief(n), brief(is))
	}
}

func (q *pair) do(a api.ClusterAct) api.Errno {
	q.t.Helper()
	e := q.c.Do(a)
	if f := q.p.do(a); e != f {
		q.t.Fatalf("P24.2: %s: %d, want %d", brief(a), e, f)
	}
	q.hold(a)
	return e
}

// must does an act of which the answer is known.
func (q *pair) must(a api.ClusterAct, want api.Errno) {
	q.t.Helper()
	if e := q.do(a); e != want {
		q.t.Fatalf("P24.2: %s: %d, want %d", brief(a), e, want)
	}
}

func (q *pair) group(g int, a api.GroupAct, want api.Errno) {
	q.t.Helper()
	q.must(api.ClusterAct{Kind: api.ClGroup, Group: g, Act: a}, want)
}

func (q *pair) rounds(n int) {
	q.t.Helper()
	for range n {
		q.must(api.ClusterAct{Kind: api.ClRound}, api.OK)
	}
}

// ticks lets a group go on, with all delivered that is under way in it.
func (q *pair) ticks(g int, n int) {
	q.t.Helper()
	for range n {
		q.group(g, api.GroupAct{Kind: api.GrTick}, api.OK)
		q.deliverAll(g)
	}
}

func (q *pair) deliverAll(g int) {
	q.t.Helper()
	for len(q.p.groups[g].Net()) > 0 {
		q.group(g, api.GroupAct{Kind: api.GrDeliver}, api.OK)
	}
}

func (q *pair) invoke(client int, r api.Request) {
	q.t.Helper()
	q.must(api.ClusterAct{Kind: api.ClInvoke, Client: client, Req: r}, api.OK)
}

// answered lets a client ask, and rounds go by till it is answered.
func (q *pair) answered(client int, r api.Request) api.Answer {
	q.t.Helper()
	q.invoke(client, r)
	for range 184 {
		q.rounds(1)
		l := q.c.Events()
		if last := l[len(l)-1]; last.Answered {
			return last.Answer
		}
	}
	q.t.Fatalf("P24.7: %s is not answered", brief(r))
	return api.Answer{}
}

// leader is a node that leads a group.
func (q *pair) leader(g int) int {
	q.t.Helper()
	for node := 1; node <= q.p.c.Nodes; node++ {
		if q.p.leads(g, node) {
			return node
		}
	}
	q.t.Fatalf("nobody leads group %d", g)
	return 0
}
