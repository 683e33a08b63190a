package term

import (
	"slices"

	"rialto/api"
)

// ballot is a ballot that is asked. Its methods change nothing: where they answer a ballot, that is another one, with a list of its own.
type ballot api.Ballot

func (b ballot) mayBe() bool {
	if !within(b.Hard.Term, 0, api.MaxTerm) || !within(b.Hard.Vote, 0, api.MaxNodes) {
		return false
	}
	if b.Hard.Term == 0 && b.Hard.Vote != 0 {
		return false
	}
	switch b.Role {
	case api.RoleFollower:
		return len(b.Got) == 0
	case api.RoleCandidate, api.RoleLeader:
		return b.gotNodes() && b.has(b.Hard.Vote) // a vote that is a node's is above 0, and so is its term
	}
	return false
}

// gotNodes tells whether those who voted for it are nodes, rising.
func (b ballot) gotNodes() bool {
	ahead := 0
	for _, node := range b.Got {
		if !isNode(node) || node <= ahead {
			return false
		}
		ahead = node
	}
	return true
}

func (b ballot) has(node int) bool { return slices.Contains(b.Got, node) }

// hearing is the ballot of one that has heard of a term.
func (b ballot) hearing(term int) ballot {
	if term > b.Hard.Term {
		return ballot{Hard: api.Hard{Term: term}, Role: api.RoleFollower}
	}
	b.Got = slices.Clone(b.Got)
	return b
}

// isFreeFor tells whether the vote may go to the one that asks, as far as the ballot says it.
func (b ballot) isFreeFor(q api.Ask) bool {
	return b.Hard.Term == q.Term && b.Role == api.RoleFollower && (b.Hard.Vote == 0 || b.Hard.Vote == q.From)
}

// standsIn tells whether votes of a term are still counted.
func (b ballot) standsIn(term int) bool {
	return b.Hard.Term == term && b.Role == api.RoleCandidate
}

// withVote is a candidate's ballot with a node's vote, one of n: it leads, if those are a majority.
func (b ballot) withVote(node, n int) ballot {
	got := slices.Clone(b.Got)
	if at, found := slices.BinarySearch(got, node); !found {
		got = slices.Insert(got, at, node)
	}
	b.Got = got
	if 2*len(got) > n {
		b.Role = api.RoleLeader
	}
	return b
}
