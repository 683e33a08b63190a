package seal

import (
	"hash/crc32"
	"math/rand"
	"sync"
	"testing"
)

// TestTableIsMadeOnce asks a table that is yet to be made, by several at once.
func TestTableIsMadeOnce(t *testing.T) {
	var all sync.WaitGroup
	got := make([]uint32, 16)
	fresh := &sumTable{}
	for i := range got {
		all.Go(func() { got[i] = fresh.sum("123456789") })
	}
	all.Wait()
	for _, n := range got {
		if n != 0xcbf43926 {
			t.Errorf("F1: by the table the sum is %x", n)
		}
	}
	fresh.steps[1] = 7
	fresh.sum("a")
	if fresh.steps[1] != 7 {
		t.Errorf("the table was made again")
	}
}

// TestTableSaysTheSame: Sum answers what the steps make, so only here it shows whether the table is right.
func TestTableSaysTheSame(t *testing.T) {
	for b := range byteValues {
		s := string([]byte{byte(b)})
		if n := table.sum(s); n != sumOf(s) {
			t.Errorf("F1: of the byte %d: by the table %x, by steps %x", b, n, sumOf(s))
		}
	}
	r := rand.New(rand.NewSource(1))
	for range 300 {
		b := make([]byte, r.Intn(1000))
		r.Read(b)
		cut := r.Intn(len(b) + 1)
		n := table.sum(string(b))
		if n != sumOf(string(b)) || n != sumOf(string(b[:cut]), string(b[cut:])) || n != crc32.ChecksumIEEE(b) {
			t.Errorf("F1: of %d bytes: by the table %x, by steps %x", len(b), n, sumOf(string(b)))
		}
	}
}

// TestNoAnswerHangsOnTheTable: with a wrong table all answers stay.
func TestNoAnswerHangsOnTheTable(t *testing.T) {
	Sum("a")
	was := table.steps
	defer func() { table.steps = was }()
	table.steps = [byteValues]uint32{}
	frame, _ := Frame("a")
	text, at, e := Unframe(frame, 0)
	whole, end := Frames(frame + frame)
	if Sum("123456789") != 0xcbf43926 || frame != "\x00\x00\x00\x01\xe5\x8c\x97\x92a" || text != "a" || at != 9 || e != 0 || len(whole) != 2 || end != 18 {
		t.Errorf("R6: an answer hangs on the table")
	}
}
