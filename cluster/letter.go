package cluster

import (
	"rialto/api"
	"rialto/same"
	"rialto/shard"
)

func (c *Cluster) tick(group int) {
	h := c.house(group)
	for node := 1; node <= c.config.Nodes; node++ {
		if h.leads(node) {
			c.lobby.Send(shard.Out(h.replicas[node].state)...)
		}
	}
}

// deliver takes a letter out: an answer is its client's, another one is given to nodes of its group.
func (c *Cluster) deliver(at int, give func(m api.Message)) api.Errno {
	m, e := c.lobby.Take(at)
	if e != api.OK {
		return e
	}
	if m.Kind == api.MsgAnswer {
		c.lobby.Hear(m)
	} else if c.has(m.To) {
		give(m)
	}
	return api.OK
}

// hand gives a letter to a node of its group. What changes nothing is told of without an entry: it is known already.
func (c *Cluster) hand(m api.Message, node int) {
	h := c.house(m.To)
	if !h.leads(node) {
		return
	}
	was := h.replicas[node].state
	state, told, marks := shard.Apply(was, m)
	if len(marks) == 0 && same.Shard(state, was) {
		c.lobby.Send(told...)
		return
	}
	if text, e := shard.Encode(m); e == api.OK {
		c.act(m.To, api.GroupAct{Kind: api.GrPropose, Node: node, Text: text})
	}
}

// handAll gives a letter to all nodes of its group, one behind the other, and lets them talk it over.
func (c *Cluster) handAll(m api.Message) {
	for node := 1; node <= c.config.Nodes; node++ {
		c.hand(m, node)
	}
	c.settle(m.To)
}

// settle delivers all that is under way in a group.
func (c *Cluster) settle(group int) {
	for len(c.house(group).group.Net()) > 0 {
		c.act(group, api.GroupAct{Kind: api.GrDeliver})
	}
}

// round ends: nodes have nothing to say any more when all have what their leader has; and what a letter tells at once stands later in its transaction.
func (c *Cluster) round() {
	c.rounds.Add(1)
	c.lobby.RetryAll()
	for group := range c.houses {
		c.act(group, api.GroupAct{Kind: api.GrTick})
		c.settle(group)
	}
	for group := range c.houses {
		c.tick(group)
	}
	for !c.lobby.Empty() {
		c.deliver(0, c.handAll)
	}
}
