package store

import (
	"slices"
	"strings"

	"rialto/api"
)

// record is a change of what is kept; each kind of them is a type of its own.
type record interface {
	fits(k kept) bool
	turn(k kept) kept // of what it fits
	stands() int64    // for how many of those that were put
	text() string
}

type hardRecord struct{ hard api.Hard }

type tailRecord struct {
	at      int
	entries []api.Entry
}

type snapRecord struct{ snap api.Snapshot }

// wholeRecord is the store's own kind, with which a segment may begin: it stands for all records that were put so far.
type wholeRecord struct {
	count int64
	kept  kept
}

// recordOf takes what a record's kind names, and nothing of the caller's memory; false: there is no such kind.
func recordOf(r api.Record) (record, bool) {
	switch r.Kind {
	case api.RecHard:
		return hardRecord{r.Hard}, true
	case api.RecTail:
		return tailRecord{r.At, copied(r.Entries)}, true
	case api.RecSnap:
		return snapRecord{api.Snapshot{Mark: r.Snap.Mark, Text: strings.Clone(r.Snap.Text)}}, true
	}
	return nil, false
}

func copied(l []api.Entry) []api.Entry {
	l = slices.Clone(l)
	for i := range l {
		l[i].Text = strings.Clone(l[i].Text)
	}
	return l
}

func within(n, least, most int) bool { return n >= least && n <= most }

func (r hardRecord) fits(k kept) bool {
	return within(r.hard.Term, 0, api.MaxTerm) && within(r.hard.Vote, 0, api.MaxNodes)
}

func (r hardRecord) turn(k kept) kept {
	k.hard = r.hard
	return k
}

func (r hardRecord) stands() int64 { return 1 }

func (r tailRecord) fits(k kept) bool {
	first := k.snap.Mark.Index + 1
	if !within(r.at, first, first+len(k.entries)) || r.at-first+len(r.entries) > api.MaxLog {
		return false
	}
	return !slices.ContainsFunc(r.entries, func(e api.Entry) bool { return !mayBe(e) })
}

func mayBe(e api.Entry) bool {
	return within(e.Term, 1, api.MaxTerm) && within(e.Kind, api.EntryStart, api.EntryCommand) && len(e.Text) <= api.MaxCommand
}

func (r tailRecord) turn(k kept) kept {
	stay := r.at - k.snap.Mark.Index - 1
	k.entries = slices.Concat(k.entries[:stay], r.entries)
	return k
}

func (r tailRecord) stands() int64 { return 1 }

func (r snapRecord) fits(k kept) bool {
	mark := r.snap.Mark
	return within(mark.Index, k.snap.Mark.Index+1, api.MaxIndex) && within(mark.Term, 1, api.MaxTerm) && len(r.snap.Text) <= api.MaxSnapshot
}

func (r snapRecord) turn(k kept) kept {
	mark := r.snap.Mark
	gone := mark.Index - k.snap.Mark.Index
	if gone > len(k.entries) || k.entries[gone-1].Term != mark.Term {
		gone = len(k.entries)
	}
	// A copy, so that what has gone is not held in memory by what is left.
	k.entries = slices.Clone(k.entries[gone:])
	k.snap = r.snap
	return k
}

func (r snapRecord) stands() int64 { return 1 }

func (r wholeRecord) fits(k kept) bool {
	if k.hard != (api.Hard{}) || k.snap != (api.Snapshot{}) || len(k.entries) > 0 {
		return false
	}
	for _, part := range r.kept.parts() {
		if !part.fits(k) {
			return false
		}
		k = part.turn(k)
	}
	return true
}

func (r wholeRecord) turn(k kept) kept { return r.kept }

func (r wholeRecord) stands() int64 { return r.count }
