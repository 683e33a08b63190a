package raft

import (
	"slices"
	"strings"

	"rialto/api"
	"rialto/entries"
	"rialto/term"
)

func mayBe(n api.Node) bool {
	return within(n.N, 1, api.MaxNodes) && within(n.Me, 1, n.N) && within(n.Leader, 0, n.N) &&
		isBallot(n.Ballot) && len(n.Ballot.Got) <= n.N &&
		entries.Check(n.Log) == api.OK && isTextOf(n.Text, n.Log.Base) && leadsRightly(n)
}

// isBallot lets it hear of a term that is one: then nothing but its form is refused.
func isBallot(b api.Ballot) bool {
	_, e := term.Hear(b, 1)
	return e == api.OK
}

// isTextOf tells whether a text may be that of a snapshot with a mark: where the log begins with nothing, nothing was saved.
func isTextOf(text string, mark api.Spot) bool {
	return len(text) <= api.MaxSnapshot && (mark.Index > 0 || text == "")
}

// leadsRightly tells whether a node has what a leader must have, and another one nothing of it.
func leadsRightly(n api.Node) bool {
	if n.Ballot.Role != api.RoleLeader {
		return len(n.Next) == 0 && len(n.Match) == 0
	}
	last := entries.Last(n.Log).Index
	return n.Leader == n.Me && areOfNodes(n.Next, n.N, 1, last+1) && areOfNodes(n.Match, n.N, 0, last)
}

// areOfNodes tells whether a list has a number for each of n nodes, and 0 at the place that is not used.
func areOfNodes(l []int, n, least, most int) bool {
	if len(l) != n+1 || l[0] != 0 {
		return false
	}
	return slices.Min(l[1:]) >= least && slices.Max(l) <= most
}

// anew is a node that may be with memory of its own.
func anew(n api.Node) api.Node {
	n.Ballot.Got = slices.Clone(n.Ballot.Got)
	n.Log.L = entries.From(n.Log, n.Log.Base.Index+1, api.MaxLog)
	n.Text = strings.Clone(n.Text)
	n.Next = slices.Clone(n.Next)
	n.Match = slices.Clone(n.Match)
	return n
}

func within(n, least, most int) bool { return n >= least && n <= most }
