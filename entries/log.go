package entries

import (
	"slices"
	"strings"

	"rialto/api"
)

func mayBe(l api.Log) bool {
	return isMark(l.Base) && len(l.L) <= api.MaxLog && areEntries(l.L, l.Base.Term) &&
		lastIndex(l) <= api.MaxIndex && within(l.Commit, l.Base.Index, lastIndex(l))
}

func isMark(s api.Spot) bool {
	return within(s.Index, 0, api.MaxIndex) && within(s.Term, 0, api.MaxTerm) && (s.Index == 0) == (s.Term == 0)
}

// areEntries tells whether they are entries whose terms do not fall, beginning from a least one.
func areEntries(l []api.Entry, least int) bool {
	for _, e := range l {
		if !isEntry(e) || e.Term < least {
			return false
		}
		least = e.Term
	}
	return true
}

func isEntry(e api.Entry) bool {
	if !within(e.Term, 1, api.MaxTerm) {
		return false
	}
	start := api.Entry{Term: e.Term, Kind: api.EntryStart}
	return e == start || e.Kind == api.EntryCommand && len(e.Text) <= api.MaxCommand
}

func lastIndex(l api.Log) int { return l.Base.Index + len(l.L) }

func lastMark(l api.Log) api.Spot {
	mark, _ := markAt(l, lastIndex(l))
	return mark
}

// hasEntry holds indices against each other alone: a difference of a strange one and another might wrap round.
func hasEntry(l api.Log, index int) bool { return within(index, l.Base.Index+1, lastIndex(l)) }

// markAt is the mark of the entry of an index, or the base, and whether there is one.
func markAt(l api.Log, index int) (api.Spot, bool) {
	if index == l.Base.Index {
		return l.Base, true
	}
	if !hasEntry(l, index) {
		return api.Spot{}, false
	}
	return api.Spot{Index: index, Term: l.L[index-l.Base.Index-1].Term}, true
}

func hasMark(l api.Log, mark api.Spot) bool {
	there, ok := markAt(l, mark.Index)
	return ok && there == mark
}

// putBehind is a log with the entries behind a mark, which is there, or ahead of the base.
func putBehind(l api.Log, prev api.Spot, es []api.Entry) (api.Log, api.Errno) {
	passed := passedOver(l, prev, es)
	if passed == len(es) {
		l.L = anew(l.L)
		return l, api.OK
	}
	es = es[passed:]
	at := prev.Index + passed // all up to it stays
	if at < l.Commit {
		return api.Log{}, api.ErrEntriesForm
	}
	l.L = l.L[:at-l.Base.Index]
	if es[0].Term < lastMark(l).Term {
		return api.Log{}, api.ErrEntriesForm
	}
	if len(l.L)+len(es) > api.MaxLog || lastIndex(l)+len(es) > api.MaxIndex {
		return api.Log{}, api.ErrLong
	}
	l.L = anew(l.L, es)
	return l, api.OK
}

// passedOver tells how many of the entries behind a mark change nothing: those that the base stands for, and those that are there.
func passedOver(l api.Log, prev api.Spot, es []api.Entry) int {
	passed := 0
pass:
	for _, e := range es {
		mark := api.Spot{Index: prev.Index + passed + 1, Term: e.Term}
		switch {
		case mark.Index <= l.Base.Index: // whatever its term is: what the base stands for is committed
		case hasMark(l, mark):
		default:
			break pass
		}
		passed++
	}
	return passed
}

// anew is a new list of all entries of some lists, with texts of its own.
func anew(lists ...[]api.Entry) []api.Entry {
	l := slices.Concat(lists...)
	for i := range l {
		l[i].Text = strings.Clone(l[i].Text)
	}
	return l
}

func within(n, least, most int) bool { return n >= least && n <= most }
