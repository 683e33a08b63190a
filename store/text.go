package store

import (
	"strings"

	"rialto/api"
	"rialto/pack"
	"rialto/seal"
)

// recWhole is the number of the store's own kind, behind those that are given.
const recWhole = api.RecSnap + 1

func (r hardRecord) text() string { return number(api.RecHard) + hardText(r.hard) }

func (r tailRecord) text() string {
	return number(api.RecTail) + number(r.at) + entriesText(r.entries)
}

func (r snapRecord) text() string { return number(api.RecSnap) + snapText(r.snap) }

func (r wholeRecord) text() string {
	return number(recWhole) + pack.Uint(uint64(r.count)) + hardText(r.kept.hard) + snapText(r.kept.snap) + entriesText(r.kept.entries)
}

func number(n int) string { return pack.Uint(uint64(n)) }

// piece is never refused: what fits has no text above pack's limit.
func piece(s string) string {
	text, _ := pack.Text(s)
	return text
}

func hardText(h api.Hard) string { return number(h.Term) + number(h.Vote) }

func snapText(s api.Snapshot) string {
	return number(s.Mark.Index) + number(s.Mark.Term) + piece(s.Text)
}

func entriesText(l []api.Entry) string {
	var b strings.Builder
	b.WriteString(number(len(l)))
	for _, e := range l {
		b.WriteString(number(e.Term) + number(e.Kind) + piece(e.Text))
	}
	return b.String()
}

// reader takes numbers and texts one behind the other; once something is not there, it is not ok any more, and all else is zero.
type reader struct {
	text string
	at   int
	ok   bool
}

// recordIn is the record that a text says, all of it.
func recordIn(text string) (record, bool) {
	r := &reader{text: text, ok: true}
	made := r.record()
	if !r.ok || r.at < len(text) {
		return nil, false
	}
	return made, true
}

func (r *reader) record() record {
	switch r.number() {
	case api.RecHard:
		return hardRecord{r.hard()}
	case api.RecTail:
		at := r.number()
		return tailRecord{at, r.entries()}
	case api.RecSnap:
		return snapRecord{r.snap()}
	case recWhole:
		count := int64(r.number())
		hard := r.hard()
		snap := r.snap()
		return wholeRecord{count, kept{hard, snap, r.entries()}}
	}
	r.ok = false
	return nil
}

func (r *reader) hard() api.Hard {
	term := r.number()
	return api.Hard{Term: term, Vote: r.number()}
}

func (r *reader) snap() api.Snapshot {
	index := r.number()
	mark := api.Spot{Index: index, Term: r.number()}
	return api.Snapshot{Mark: mark, Text: r.piece()}
}

func (r *reader) entries() []api.Entry {
	var l []api.Entry
	for range r.number() {
		term := r.number()
		kind := r.number()
		text := r.piece()
		if !r.ok {
			return nil
		}
		l = append(l, api.Entry{Term: term, Kind: kind, Text: text})
	}
	return l
}

func (r *reader) number() int {
	if !r.ok {
		return 0
	}
	n, next, e := pack.TakeUint(r.text, r.at)
	r.at, r.ok = next, e == api.OK
	return int(n)
}

func (r *reader) piece() string {
	if !r.ok {
		return ""
	}
	s, next, e := pack.TakeText(r.text, r.at)
	r.at, r.ok = next, e == api.OK
	return s
}

// A record may be longer than a frame holds: it goes in several, each with a byte ahead that says whether it is the last one. So a record of which some frames are torn is told from a whole one.
const (
	flagMore  = 0
	flagLast  = 1
	frameHead = 8 // what seal puts ahead of a frame's text
	flagSize  = 1
	partSize  = api.MaxFrame - flagSize
)

func framed(text string) string {
	var b strings.Builder
	for len(text) > partSize {
		b.WriteString(frame(flagMore, text[:partSize]))
		text = text[partSize:]
	}
	b.WriteString(frame(flagLast, text))
	return b.String()
}

// frame is never refused: no part of a record is above seal's limit.
func frame(flag byte, part string) string {
	f, _ := seal.Frame(string([]byte{flag}) + part)
	return f
}

// framedSize is how many bytes framed makes of so many, of one at least.
func framedSize(n int) int {
	frames := (n + partSize - 1) / partSize
	return n + frames*(frameHead+flagSize)
}
