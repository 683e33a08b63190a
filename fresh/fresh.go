// Package fresh gives memory of its own to what layers answer or keep.
package fresh

import (
	"slices"

	"rialto/api"
)

// List is a list of which each one is made anew.
func List[T any](l []T, anew func(one T) T) []T {
	var all []T
	for _, one := range l {
		all = append(all, anew(one))
	}
	return all
}

func Answer(a api.Answer) api.Answer {
	a.Amounts = slices.Clone(a.Amounts)
	a.Fills = slices.Clone(a.Fills)
	return a
}

func Account(a api.Account) api.Account {
	a.Free = slices.Clone(a.Free)
	return a
}

func Lane(l api.Lane) api.Lane {
	l.Bids = slices.Clone(l.Bids)
	l.Asks = slices.Clone(l.Asks)
	l.Owed = slices.Clone(l.Owed)
	return l
}

func Cell(c api.Cell) api.Cell {
	c.Account = Account(c.Account)
	c.Lane = Lane(c.Lane)
	return c
}

func Message(m api.Message) api.Message {
	m.Answer = Answer(m.Answer)
	m.Cells = List(m.Cells, Cell)
	return m
}

func Event(e api.Event) api.Event {
	e.Answer = Answer(e.Answer)
	return e
}

func Session(s api.Session) api.Session {
	s.Answer = Answer(s.Answer)
	return s
}

func Part(p api.Part) api.Part {
	p.Cells = List(p.Cells, Cell)
	p.Locks = api.Table{Held: slices.Clone(p.Locks.Held), Wait: slices.Clone(p.Locks.Wait)}
	p.Pends = List(p.Pends, pend)
	p.Done = List(p.Done, done)
	return p
}

func Coord(c api.Coord) api.Coord {
	c.Trans = List(c.Trans, trans)
	return c
}

func Shard(s api.Shard) api.Shard {
	s.Part = Part(s.Part)
	s.Coord = Coord(s.Coord)
	s.Sessions = List(s.Sessions, Session)
	s.Map = slices.Clone(s.Map)
	return s
}

func Model(m api.Model) api.Model {
	m.Accounts = List(m.Accounts, Account)
	m.Lanes = List(m.Lanes, Lane)
	return m
}

func pend(p api.Pend) api.Pend {
	p.Amounts = slices.Clone(p.Amounts)
	p.Cells = List(p.Cells, Cell)
	return p
}

func done(d api.Done) api.Done {
	d.Answer = Answer(d.Answer)
	return d
}

func trans(t api.Trans) api.Trans {
	t.Peers = slices.Clone(t.Peers)
	t.Amounts = slices.Clone(t.Amounts)
	t.Cells = List(t.Cells, Cell)
	t.Answer = Answer(t.Answer)
	return t
}
