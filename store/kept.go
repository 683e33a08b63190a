package store

import "rialto/api"

// kept is what a store keeps; as it is at first it is zero. Its entries are never changed in place: what comes of it may share them.
type kept struct {
	hard    api.Hard
	snap    api.Snapshot
	entries []api.Entry
}

// The most bytes that what is kept takes on a disk beside its texts, its numbers at their greatest.
const (
	wholeMost = 1 + 9 + 4 + 6 + 3 + 2 // kind, count, hard, mark, the snapshot's length, how many entries
	entryMost = 3 + 1 + 2             // term, kind, the text's length
)

// most is how many bytes a whole record of it takes at most, whatever was put ahead of it.
func (k kept) most() int {
	n := wholeMost + len(k.snap.Text)
	for _, e := range k.entries {
		n += entryMost + len(e.Text)
	}
	return framedSize(n)
}

// parts are the records that make it out of nothing.
func (k kept) parts() []record {
	l := []record{hardRecord{k.hard}}
	if k.snap != (api.Snapshot{}) {
		l = append(l, snapRecord{k.snap})
	}
	return append(l, tailRecord{k.snap.Mark.Index + 1, k.entries})
}
