package whole

import (
	"math/rand"
	"slices"
	"testing"

	"rialto/api"
	"rialto/cluster"
)

// city is an exchange of groups of nodes.
type city struct {
	*cluster.Cluster
	t       *testing.T
	c       api.ClusterConfig
	decided decisions
	known   []map[int]api.Entry // of each group what was ever known, by indices
	states  []map[int]api.Shard // of each group what a node has made of so many entries
	most    []int               // of each group how many entries ever were taken in
	looked  [][]int             // of each group's nodes how many entries were looked at since it came up; -1: it is not up
}

func newCity(t *testing.T, c api.ClusterConfig) *city {
	t.Helper()
	x, e := cluster.New(c)
	if e != api.OK {
		t.Fatalf("P24.1: New(%v): %d", c, e)
	}
	y := &city{Cluster: x, t: t, c: c, decided: decisions{}, most: make([]int, c.Groups)}
	for range c.Groups {
		y.known = append(y.known, map[int]api.Entry{})
		y.states = append(y.states, map[int]api.Shard{})
		y.looked = append(y.looked, slices.Repeat([]int{-1}, c.Nodes+1))
	}
	return y
}

func (c *city) invoke(client int, r api.Request) api.Errno {
	return c.Do(api.ClusterAct{Kind: api.ClInvoke, Client: client, Req: r})
}

func (c *city) round() {
	c.t.Helper()
	c.Do(api.ClusterAct{Kind: api.ClRound})
	for g := range c.c.Groups {
		c.look(g)
	}
}

func (c *city) way() []api.Message { return c.Letters() }

func (c *city) events() []api.Event { return c.Events() }

func (c *city) marks() []api.Mark { return c.Marks() }

// shards are those with the most entries that ever were taken in.
func (c *city) shards() []api.Shard {
	var l []api.Shard
	for g := range c.c.Groups {
		for node := 1; node <= c.c.Nodes; node++ {
			if s, n, up := c.State(g, node); up && n == c.most[g] {
				l = append(l, s)
				break
			}
		}
		if len(l) == g {
			return nil
		}
	}
	return l
}

// look holds the nodes of a group against each other, and against all that was ever known: P24.5.
func (c *city) look(g int) {
	c.t.Helper()
	for node := 1; node <= c.c.Nodes; node++ {
		x := c.Node(g, node)
		met := &c.looked[g][node]
		switch {
		case x.Me == 0:
			if s, n, up := c.State(g, node); up || n != 0 || !same(s, api.Shard{}) {
				c.t.Fatalf("P24.3: node %d of group %d is not up: %s, %d", node, g, brief(s), n)
			}
			*met = -1
		case x.Log.Commit != *met:
			c.lookAt(g, node, x.Log.L[max(0, *met):x.Log.Commit], max(0, *met))
			*met = x.Log.Commit
		}
	}
}

// lookAt looks at a node that knows new entries, from a number on.
func (c *city) lookAt(g int, node int, l []api.Entry, from int) {
	c.t.Helper()
	for i, e := range l {
		if known, met := c.known[g][from+i]; met && known != e {
			c.t.Fatalf("P24.5: node %d of group %d knows %v at %d, known is %v", node, g, e, from+i, known)
		}
		c.known[g][from+i] = e
	}
	s, n, up := c.State(g, node)
	if !up || n != from+len(l) {
		c.t.Fatalf("P24.5: node %d of group %d has taken in %d, knows %d", node, g, n, from+len(l))
	}
	if made, met := c.states[g][n]; met && !same(made, s) {
		c.t.Fatalf("P24.5: node %d of group %d is %s behind %d entries, one was %s", node, g, brief(s), n, brief(made))
	}
	c.states[g][n] = s
	c.most[g] = max(c.most[g], n)
}

func (c *city) group(g int, a api.GroupAct) api.Errno {
	c.t.Helper()
	e := c.Do(api.ClusterAct{Kind: api.ClGroup, Group: g, Act: a})
	c.look(g)
	return e
}

// leader is a node that leads, or any.
func (c *city) leader(r *rand.Rand, g int) int {
	for node := 1; node <= c.c.Nodes; node++ {
		if c.Node(g, node).Ballot.Role == api.RoleLeader && r.Intn(4) > 0 {
			return node
		}
	}
	return 1 + r.Intn(c.c.Nodes)
}

// disorder is some acts: nodes fall and come up, disks tear, packets and letters come late, twice, turned round, or not at all.
func (c *city) disorder(r *rand.Rand, acts int, falls bool) {
	c.t.Helper()
	for range acts {
		under := len(c.Letters())
		g := r.Intn(c.c.Groups)
		node := 1 + r.Intn(c.c.Nodes)
		switch n := r.Intn(200); {
		case n < 8:
			c.invoke(1+r.Intn(c.c.Clients), someRequest(r))
		case n < 11:
			c.Do(api.ClusterAct{Kind: api.ClRetry, Client: 1 + r.Intn(c.c.Clients)})
		case n < 20 && under < 80:
			c.Do(api.ClusterAct{Kind: api.ClTick, Group: g})
			c.decided.hold(c.t, c.Letters()[under:])
		case n < 23 && under > 0:
			c.Do(api.ClusterAct{Kind: api.ClDrop, N: r.Intn(under)})
		case n < 26 && under > 0:
			c.Do(api.ClusterAct{Kind: api.ClDouble, N: r.Intn(under)})
		case n < 50 && under > 0:
			at := r.Intn(under)
			to := max(0, c.Letters()[at].To)
			c.Do(api.ClusterAct{Kind: api.ClDeliver, N: at, Node: c.leader(r, to)})
			c.look(to)
		case n < 90:
			c.group(g, api.GroupAct{Kind: api.GrTick})
		case n < 182:
			c.group(g, api.GroupAct{Kind: api.GrDeliver, N: r.Intn(3)})
		case n < 184:
			c.group(g, api.GroupAct{Kind: api.GrDrop, N: r.Intn(9)})
		case n < 186:
			c.group(g, api.GroupAct{Kind: api.GrDouble, N: r.Intn(9)})
		case n < 187:
			c.group(g, api.GroupAct{Kind: api.GrDraw, Node: node, N: 3 + r.Intn(40)})
		case !falls:
		case n < 190:
			c.group(g, api.GroupAct{Kind: api.GrFuse, Node: node, N: r.Intn(6)})
		case n < 193:
			c.group(g, api.GroupAct{Kind: api.GrCrash, Node: node, Keep: []int{r.Intn(60), r.Intn(60)}})
		case n < 194:
			c.group(g, api.GroupAct{Kind: api.GrFuse, Node: node, N: -1})
		default:
			c.group(g, api.GroupAct{Kind: api.GrRestart, Node: node})
		}
	}
}

// heal lets nothing fall any more. The draws are primes: where one is another one's multiple, two nodes may stand at the same ticks for ever.
func (c *city) heal(r *rand.Rand) {
	c.t.Helper()
	primes := []int{3, 5, 7, 11, 13, 17, 19, 23, 29, 31, 37, 41}
	for g := range c.c.Groups {
		for i, k := range r.Perm(len(primes))[:c.c.Nodes] {
			c.group(g, api.GroupAct{Kind: api.GrFuse, Node: i + 1, N: -1})
			c.group(g, api.GroupAct{Kind: api.GrRestart, Node: i + 1})
			c.group(g, api.GroupAct{Kind: api.GrDraw, Node: i + 1, N: primes[k]})
		}
	}
	for len(c.Letters()) > 200 {
		c.Do(api.ClusterAct{Kind: api.ClDrop})
	}
}

// longest is how many entries the longest log has.
func (c *city) longest() int {
	most := 0
	for g := range c.c.Groups {
		for node := 1; node <= c.c.Nodes; node++ {
			most = max(most, len(c.Node(g, node).Log.L))
		}
	}
	return most
}

// inTheEnd: 160 rounds, and 12 for each client who waits and one more, answer all: P24.7.
func (c *city) inTheEnd() {
	c.t.Helper()
	p := waiting(c)
	for range 160 + 12*(p+1) {
		if waiting(c) == 0 {
			return
		}
		c.round()
	}
	if n := waiting(c); n > 0 {
		c.t.Fatalf("P24.7: %d of %d still wait", n, p)
	}
}

// TestCluster: whatever falls, the exchange is one machine, and ends.
func TestCluster(t *testing.T) {
	endings := map[api.Errno]int{}
	entireTimes := 0
	for seed := range int64(16) {
		r := rand.New(rand.NewSource(seed))
		c := newCity(t, api.ClusterConfig{Groups: 1 + int(seed)%4, Nodes: 1 + r.Intn(5), Clients: 1 + r.Intn(6)})
		for c.longest() <= 200 {
			c.disorder(r, 600, r.Intn(3) > 0)
			entire(t, c, judge(t, c))
			c.heal(r)
			if c.longest() > 250 {
				break
			}
			c.inTheEnd()
			c.round()
			if c.shards() != nil {
				entireTimes++
			}
			entire(t, c, judge(t, c))
		}
		for _, f := range fates(t, c) {
			endings[f.answer.Code]++
		}
	}
	for _, code := range []api.Errno{api.OK, api.ErrWounded, api.ErrMoved, api.ErrRejected} {
		if endings[code] < 15 {
			t.Errorf("too few of them tell something: %v", endings)
		}
	}
	if entireTimes < 30 {
		t.Errorf("P24.6 was looked at %d times alone", entireTimes)
	}
}
