package group

import (
	"rialto/api"
	"rialto/net"
)

// act does an act that answers no number.
func (g *Group) act(a api.GroupAct) api.Errno {
	switch a.Kind {
	case api.GrTick:
		return g.tick()
	case api.GrDraw:
		return g.member(a.Node).setDraw(a.N)
	case api.GrDeliver:
		return g.deliver(a.N)
	case api.GrDrop:
		_, e := g.net.Take(a.N)
		return e
	case api.GrDouble:
		return g.net.Double(a.N)
	case api.GrFuse:
		return g.member(a.Node).disk.Fuse(a.N)
	case api.GrCrash:
		return g.crash(a.Node, a.Keep)
	case api.GrRestart:
		return g.restart(a.Node)
	}
	return g.save(a.Node, a.N, a.Text)
}

// tick is never refused: what a node answers to its timeout is its own matter, and the others' timers are due all the same.
func (g *Group) tick() api.Errno {
	for _, node := range g.wheel.Tick() {
		if _, e := g.happen(node, api.NodeEvent{Kind: api.EvTimeout}); e != api.OK && g.Up(node) {
			g.setTimer(node)
		}
	}
	return api.OK
}

func (g *Group) propose(node int, text string) (int, api.Errno) {
	if !g.Up(node) {
		return 0, api.ErrDiskDown
	}
	return g.happen(node, api.NodeEvent{Kind: api.EvPropose, Text: text})
}

func (g *Group) deliver(i int) api.Errno {
	p, e := g.net.Take(i)
	if e != api.OK || !g.Up(p.To) {
		return e
	}
	m, e := net.Decode(p.Text)
	if e != api.OK {
		return e
	}
	_, e = g.happen(p.To, api.NodeEvent{Kind: api.EvMessage, Msg: m})
	return e
}

func (g *Group) crash(node int, keep []int) api.Errno {
	g.fall(node)
	g.member(node).disk.Crash(keep)
	return api.OK
}

func (g *Group) restart(node int) api.Errno {
	if g.Up(node) {
		return api.ErrArg
	}
	if e := g.member(node).open(node, g.config.Nodes); e != api.OK {
		return e
	}
	g.setTimer(node)
	return api.OK
}

func (g *Group) save(node int, index int, text string) api.Errno {
	if !g.Up(node) {
		return api.ErrDiskDown
	}
	_, e := g.happen(node, api.NodeEvent{Kind: api.EvSave, Index: index, Text: text})
	return e
}
