package cluster

import (
	"sync"

	"rialto/api"
	"rialto/group"
	"rialto/shard"
)

const (
	diskRoom = 1 << 20 // bytes
	netRoom  = 500     // packets
)

// house is a group of nodes, and what each of them has made of what it knows.
type house struct {
	made     sync.Once
	group    *group.Group
	replicas []replica // by the nodes' numbers; 0 is nobody's place
	most     int       // how many entries the node took in that is farthest; of these the marks are told
}

// replica is a node's state, and how many entries it has taken in.
type replica struct {
	state api.Shard
	taken int
}

// house is the one of a group that is there; what it needs is made when it is first asked for.
func (c *Cluster) house(of int) *house {
	h := &c.houses[of]
	h.made.Do(func() {
		h.group, _ = group.New(api.GroupConfig{Nodes: c.config.Nodes, Disk: diskRoom, Room: netRoom})
		for range c.config.Nodes + 1 {
			h.replicas = append(h.replicas, c.begun(of))
		}
	})
	return h
}

func (c *Cluster) begun(group int) replica {
	state, _ := shard.New(group, c.config.Groups)
	return replica{state: state}
}

// act lets something happen in a group. Behind that its nodes take in what they know newly; who is down will begin anew.
func (c *Cluster) act(group int, a api.GroupAct) api.Errno {
	h := c.house(group)
	_, e := h.group.Do(a)
	for node := 1; node <= c.config.Nodes; node++ {
		if h.group.Up(node) {
			c.takeIn(h, node)
		} else {
			h.replicas[node] = c.begun(group)
		}
	}
	return e
}

// takeIn applies what a node knows newly. Only who leads sends what that tells; what is marked was marked for all by whoever took it in first.
func (c *Cluster) takeIn(h *house, node int) {
	r := &h.replicas[node]
	for _, entry := range h.group.Known(node)[r.taken:] {
		told, marks := r.apply(entry)
		if h.leads(node) {
			c.lobby.Send(told...)
		}
		if r.taken > h.most {
			h.most = r.taken
			c.lobby.Mark(marks...)
		}
	}
}

func (r *replica) apply(entry api.Entry) ([]api.Message, []api.Mark) {
	r.taken++
	m, e := shard.Decode(entry.Text)
	if entry.Kind != api.EntryCommand || e != api.OK {
		return nil, nil
	}
	state, told, marks := shard.Apply(r.state, m)
	r.state = state
	return told, marks
}

// leads is false of a node that is not up, or not there.
func (h *house) leads(node int) bool { return h.group.Node(node).Ballot.Role == api.RoleLeader }
