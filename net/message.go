package net

import (
	"strings"

	"rialto/api"
	"rialto/pack"
	"rialto/seal"
)

// Encode writes a message as a text, Decode reads one.
func Encode(m api.Msg) (string, api.Errno) {
	if !mayBe(m) {
		return "", api.ErrNetForm
	}
	// This is never refused: all that the greatest message says is less than a frame holds.
	return seal.Frame(textOf(m))
}

func Decode(s string) (api.Msg, api.Errno) {
	text, end, e := seal.Unframe(s, 0)
	if e != api.OK || end < len(s) {
		return api.Msg{}, api.ErrNetForm
	}
	m, ok := messageIn(text)
	if !ok || !mayBe(m) {
		return api.Msg{}, api.ErrNetForm
	}
	return m, api.OK
}

// fields are those of which each kind names some; they can be held against what that kind alone may say.
type fields struct {
	prev    api.Spot
	entries int // how many
	commit  int
	ok      bool
	match   int
	snap    api.Snapshot
}

func fieldsOf(m api.Msg) fields {
	return fields{m.Prev, len(m.Entries), m.Commit, m.Ok, m.Match, m.Snap}
}

func mayBe(m api.Msg) bool {
	if !isNode(m.From) || !isNode(m.To) || m.From == m.To || !within(m.Term, 1, api.MaxTerm) {
		return false
	}
	f := fieldsOf(m)
	switch m.Kind {
	case api.MsgPoll:
		return f == (fields{prev: f.prev}) && isMark(f.prev)
	case api.MsgGrant:
		return f == (fields{ok: f.ok})
	case api.MsgAppend:
		named := fields{prev: f.prev, entries: f.entries, commit: f.commit}
		return f == named && isMark(f.prev) && areEntries(m.Entries) && within(f.commit, 0, api.MaxIndex)
	case api.MsgAppended:
		return f == (fields{ok: f.ok, match: f.match}) && within(f.match, 0, api.MaxIndex)
	case api.MsgInstall:
		return f == (fields{snap: f.snap}) && isSnapshot(f.snap)
	}
	return false
}

func isMark(s api.Spot) bool {
	return within(s.Index, 0, api.MaxIndex) && within(s.Term, 0, api.MaxTerm) && (s.Term == 0) == (s.Index == 0)
}

func isSnapshot(s api.Snapshot) bool {
	return isMark(s.Mark) && s.Mark.Index > 0 && len(s.Text) <= api.MaxSnapshot
}

func areEntries(l []api.Entry) bool {
	if len(l) > api.MaxBatch {
		return false
	}
	for _, e := range l {
		if !within(e.Term, 1, api.MaxTerm) || !within(e.Kind, api.EntryStart, api.EntryCommand) || len(e.Text) > api.MaxCommand {
			return false
		}
	}
	return true
}

// textOf is what stands in the frame of a message that may be.
func textOf(m api.Msg) string {
	head := number(m.Kind) + number(m.From) + number(m.To) + number(m.Term)
	switch m.Kind {
	case api.MsgPoll:
		return head + spotText(m.Prev)
	case api.MsgGrant:
		return head + flag(m.Ok)
	case api.MsgAppend:
		return head + spotText(m.Prev) + number(m.Commit) + entriesText(m.Entries)
	case api.MsgAppended:
		return head + flag(m.Ok) + number(m.Match)
	case api.MsgInstall:
		return head + spotText(m.Snap.Mark) + piece(m.Snap.Text)
	}
	return ""
}

func number(n int) string { return pack.Uint(uint64(n)) }

func flag(ok bool) string {
	if ok {
		return number(1)
	}
	return number(0)
}

// piece is never refused: no text of a message that may be is above pack's limit.
func piece(s string) string {
	text, _ := pack.Text(s)
	return text
}

func spotText(s api.Spot) string { return number(s.Index) + number(s.Term) }

func entriesText(l []api.Entry) string {
	var b strings.Builder
	b.WriteString(number(len(l)))
	for _, e := range l {
		b.WriteString(number(e.Term) + number(e.Kind) + piece(e.Text))
	}
	return b.String()
}
