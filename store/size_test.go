package store

import (
	"math"
	"math/rand"
	"strings"
	"testing"

	"rialto/api"
)

// TestSizes: what Put reckons with is at least what is written, and at most what P4.2 counts.
func TestSizes(t *testing.T) {
	r := rand.New(rand.NewSource(1))
	for range 300 {
		k := kept{hard: api.Hard{Term: r.Intn(api.MaxTerm + 1), Vote: r.Intn(8)}}
		if r.Intn(2) == 0 {
			k.snap = api.Snapshot{Mark: api.Spot{Index: 1 + r.Intn(api.MaxIndex), Term: 1 + r.Intn(api.MaxTerm)}, Text: strings.Repeat("s", r.Intn(api.MaxSnapshot+1))}
		}
		long := []int{0, 1, 127, 128, api.MaxCommand}[r.Intn(5)]
		for range r.Intn(api.MaxLog + 1) {
			k.entries = append(k.entries, api.Entry{Term: 1 + r.Intn(api.MaxTerm), Kind: 1 + r.Intn(2), Text: strings.Repeat("e", r.Intn(long+1))})
		}
		checkSize(t, k)
	}
	greatest := kept{hard: api.Hard{Term: api.MaxTerm, Vote: api.MaxNodes}, snap: api.Snapshot{Mark: api.Spot{Index: api.MaxIndex, Term: api.MaxTerm}, Text: strings.Repeat("s", api.MaxSnapshot)}}
	checkSize(t, greatest)
	for range api.MaxLog {
		greatest.entries = append(greatest.entries, api.Entry{Term: api.MaxTerm, Kind: api.EntryCommand, Text: strings.Repeat("e", api.MaxCommand)})
	}
	checkSize(t, greatest)
	checkSize(t, kept{})
}

func checkSize(t *testing.T, k kept) {
	t.Helper()
	text := wholeRecord{math.MaxInt64, k}.text()
	if n := len(framed(text)); n > k.most() || framedSize(len(text)) != n {
		t.Errorf("P4.2: %d bytes are written, %d were reckoned with", n, k.most())
	}
	count := 100 + len(k.snap.Text)
	for _, e := range k.entries {
		count += 40 + len(e.Text)
	}
	if k.most() > count {
		t.Errorf("P4.2: %d bytes are reckoned with, %d are counted", k.most(), count)
	}
	if r, ok := recordIn(text); !ok || !r.fits(kept{}) || r.text() != text {
		t.Errorf("S5: what is written whole is not read again")
	}
}

// TestLongestFrames: parts of just the size of a frame, and of one byte more or less.
func TestLongestFrames(t *testing.T) {
	for _, n := range []int{1, partSize - 1, partSize, partSize + 1, 2 * partSize, 2*partSize + 1} {
		if f := framed(strings.Repeat("x", n)); len(f) != framedSize(n) {
			t.Errorf("S3: %d bytes in frames are %d, want %d", n, len(f), framedSize(n))
		}
	}
}
