package store_test

import (
	"math"
	"math/rand"
	"slices"
	"strings"
	"testing"
	"unsafe"

	"rialto/api"
	"rialto/disk"
	"rialto/seal"
	"rialto/store"
)

// state is what a store keeps.
type state struct {
	hard api.Hard
	snap api.Snapshot
	log  []api.Entry
}

func (a state) is(b state) bool {
	return a.hard == b.hard && a.snap == b.snap && slices.Equal(a.log, b.log)
}

func told(s *store.Store) state { return state{s.Hard(), s.Snap(), s.Log()} }

func hard(term, vote int) api.Record {
	return api.Record{Kind: api.RecHard, Hard: api.Hard{Term: term, Vote: vote}}
}

func tail(at int, l ...api.Entry) api.Record {
	return api.Record{Kind: api.RecTail, At: at, Entries: l}
}

func snap(index, term int, text string) api.Record {
	return api.Record{Kind: api.RecSnap, Snap: api.Snapshot{Mark: api.Spot{Index: index, Term: term}, Text: text}}
}

func entry(term int, text string) api.Entry {
	return api.Entry{Term: term, Kind: api.EntryCommand, Text: text}
}

// turned is the chapter's table, with entries under their indices; false: the record does not fit.
func turned(s state, r api.Record) (state, bool) {
	log := map[int]api.Entry{}
	for i, e := range s.log {
		log[s.snap.Mark.Index+1+i] = e
	}
	last := s.snap.Mark.Index + len(s.log)
	switch r.Kind {
	case 1:
		if r.Hard.Term < 0 || r.Hard.Term > 1000000 || r.Hard.Vote < 0 || r.Hard.Vote > 7 {
			return s, false
		}
		s.hard = r.Hard
	case 2:
		if r.At <= s.snap.Mark.Index || r.At > last+1 || r.At-1-s.snap.Mark.Index+len(r.Entries) > 400 {
			return s, false
		}
		for i := r.At; i <= last; i++ {
			delete(log, i)
		}
		for i, e := range r.Entries {
			if e.Term < 1 || e.Term > 1000000 || e.Kind != 1 && e.Kind != 2 || len(e.Text) > 4000 {
				return s, false
			}
			log[r.At+i] = e
		}
	case 3:
		mark := r.Snap.Mark
		if mark.Index <= s.snap.Mark.Index || mark.Index > 1000000 || mark.Term < 1 || mark.Term > 1000000 || len(r.Snap.Text) > 50000 {
			return s, false
		}
		if e, ok := log[mark.Index]; !ok || e.Term != mark.Term {
			clear(log)
		}
		for i := range log {
			if i <= mark.Index {
				delete(log, i)
			}
		}
		s.snap = r.Snap
	default:
		return s, false
	}
	s.log = nil
	for i := s.snap.Mark.Index + 1; ; i++ {
		e, ok := log[i]
		if !ok {
			return s, true
		}
		s.log = append(s.log, e)
	}
}

// counted and countedRecords count as the chapter does for P4.2.
func counted(s state) int {
	n := 100 + len(s.snap.Text)
	for _, e := range s.log {
		n += 40 + len(e.Text)
	}
	return n
}

func countedRecords(l []api.Record) int {
	n := 0
	for _, r := range l {
		n += 100
		if r.Kind == api.RecSnap {
			n += len(r.Snap.Text)
		}
		if r.Kind == api.RecTail {
			for _, e := range r.Entries {
				n += 40 + len(e.Text)
			}
		}
	}
	return n
}

func newDisk(t *testing.T, room int) *disk.Disk {
	t.Helper()
	d, e := disk.New(room)
	if e != api.OK {
		t.Fatalf("D1: New(%d): %d", room, e)
	}
	return d
}

func newStore(t *testing.T, room int) (*store.Store, *disk.Disk) {
	t.Helper()
	d := newDisk(t, room)
	s, e := store.New(d)
	if s == nil || e != api.OK {
		t.Fatalf("S1: New: %v, %d", s, e)
	}
	return s, d
}

func open(t *testing.T, d *disk.Disk) *store.Store {
	t.Helper()
	s, e := store.Open(d)
	if s == nil || e != api.OK {
		t.Fatalf("S2: Open: %v, %d", s, e)
	}
	return s
}

func put(t *testing.T, s *store.Store, l ...api.Record) {
	t.Helper()
	if e := s.Put(l); e != api.OK {
		t.Fatalf("S3: Put: %d", e)
	}
}

func sync(t *testing.T, s *store.Store) {
	t.Helper()
	if e := s.Sync(); e != api.OK {
		t.Fatalf("S4: Sync: %d", e)
	}
}

func keeps(t *testing.T, promise string, s *store.Store, want state) {
	t.Helper()
	if is := told(s); !is.is(want) {
		t.Fatalf("%s: keeps %v, want %v", promise, brief(is), brief(want))
	}
}

// brief leaves long texts out.
func brief(s state) state {
	cut := func(text string) string { return text[:min(len(text), 12)] }
	s.snap.Text = cut(s.snap.Text)
	s.log = slices.Clone(s.log[:min(len(s.log), 12)])
	for i := range s.log {
		s.log[i].Text = cut(s.log[i].Text)
	}
	return s
}

// dump is all that may be asked of a disk: what it has, what of it is safe, its fuse (up to 5) and its age.
func dump(d *disk.Disk) []string {
	var l []string
	all := d.Copy()
	all.Fuse(-1)
	safe := all.Copy()
	safe.Crash(nil)
	for _, n := range all.Segments() {
		a, _ := all.Read(n)
		b, _ := safe.Read(n)
		l = append(l, string(rune(n)), a, b)
	}
	fused := d.Copy()
	for range 5 {
		if fused.Sync() == api.OK {
			l = append(l, "goes")
		}
	}
	return append(l, string(rune(d.Age())))
}

func TestNew(t *testing.T) {
	if s, e := store.New(nil); s != nil || e != api.ErrArg {
		t.Errorf("S1: New(nil): %v, %d", s, e)
	}
	d := newDisk(t, 256)
	d.Append(5, "x")
	if s, e := store.New(d); s != nil || e != api.ErrStoreForm {
		t.Errorf("S1: New of a disk with a segment: %v, %d", s, e)
	}
	d.Fuse(0)
	if s, e := store.New(d); s != nil || e != api.ErrDiskDown {
		t.Errorf("S1: New of a disk that is down: %v, %d", s, e)
	}
	d.Fuse(-1)
	d.Drop(5)
	d.Crash(nil)
	d.Fuse(2)
	was := dump(d)
	s, e := store.New(d)
	if s == nil || e != api.OK || !slices.Equal(dump(d), was) {
		t.Fatalf("S1: New of a disk whose segments are gone: %v, %d", s, e)
	}
	keeps(t, "S1", s, state{})
	if s.Log() != nil {
		t.Errorf("S1: Log = %v", s.Log())
	}
}

func TestOpenRefuses(t *testing.T) {
	if s, e := store.Open(nil); s != nil || e != api.ErrArg {
		t.Errorf("S2: Open(nil): %v, %d", s, e)
	}
	d := newDisk(t, 256)
	d.Fuse(0)
	if s, e := store.Open(d); s != nil || e != api.ErrDiskDown {
		t.Errorf("S2: Open of a disk that is down: %v, %d", s, e)
	}
	d.Fuse(-1)
	keeps(t, "S2: a disk without segments", open(t, d), state{})
	put(t, open(t, d), hard(3, 1))
	keeps(t, "S2", open(t, d), state{hard: api.Hard{Term: 3, Vote: 1}})
}

func TestExamples(t *testing.T) {
	s, d := newStore(t, 1000)
	a, b := entry(1, "a"), entry(1, "b")
	put(t, s, hard(1, 2), tail(1, a, b))
	sync(t, s)
	put(t, s, tail(2))
	keeps(t, "S3", s, state{hard: api.Hard{Term: 1, Vote: 2}, log: []api.Entry{a}})
	d.Crash(nil)
	keeps(t, "S5: example 1", open(t, d), state{hard: api.Hard{Term: 1, Vote: 2}, log: []api.Entry{a, b}})

	s, _ = newStore(t, 1000)
	for _, r := range []api.Record{tail(2), snap(0, 1, "")} {
		if e := s.Put([]api.Record{r}); e != api.ErrStoreRecord {
			t.Errorf("S3: example 2: %d", e)
		}
	}

	for term, want := range map[int]int{1: 1, 2: 0} {
		s, _ = newStore(t, 1000)
		put(t, s, tail(1, a, a, b), snap(2, term, "text"))
		keeps(t, "S3: example 3", s, state{snap: api.Snapshot{Mark: api.Spot{Index: 2, Term: term}, Text: "text"}, log: []api.Entry{a, a, b}[3-want:]})
	}
}

// TestWhatFits asks for each edge of the table, on a store whose mark is 5 and whose last entry is 8.
func TestWhatFits(t *testing.T) {
	long := strings.Repeat("x", 4001)
	text := strings.Repeat("y", 50001)
	many := slices.Repeat([]api.Entry{entry(1, "")}, 401)
	for i, c := range []struct {
		r    api.Record
		fits bool
	}{
		{hard(0, 0), true}, {hard(1000000, 7), true}, {hard(-1, 0), false}, {hard(1000001, 0), false}, {hard(0, -1), false}, {hard(0, 8), false},
		{hard(math.MaxInt, 1), false}, {hard(math.MinInt, 1), false}, {hard(1, math.MaxInt), false}, {hard(1, math.MinInt), false},
		{tail(5), false}, {tail(6), true}, {tail(8), true}, {tail(9), true}, {tail(10), false}, {tail(0), false}, {tail(-1), false}, {tail(math.MinInt), false}, {tail(math.MaxInt), false},
		{tail(5, entry(1, "a")), false}, {tail(9, entry(1, "a")), true}, {tail(10, entry(1, "a")), false},
		{tail(6, many[:400]...), true}, {tail(6, many...), false}, {tail(7, many[:399]...), true}, {tail(7, many[:400]...), false}, {tail(9, many[:397]...), true}, {tail(9, many[:398]...), false},
		{tail(9, entry(0, "a")), false}, {tail(9, entry(-1, "a")), false}, {tail(9, entry(1000000, "a")), true}, {tail(9, entry(1000001, "a")), false},
		{tail(9, entry(1, long[1:])), true}, {tail(9, entry(1, long)), false}, {tail(9, entry(1, "a"), entry(0, "a")), false},
		{tail(9, api.Entry{Term: 1, Kind: 0}), false}, {tail(9, api.Entry{Term: 1, Kind: 1}), true}, {tail(9, api.Entry{Term: 1, Kind: 1, Text: "a start"}), true}, {tail(9, api.Entry{Term: 1, Kind: 3}), false}, {tail(9, api.Entry{Term: 1, Kind: -1}), false},
		{tail(9, entry(9, "a"), entry(1, "terms may fall")), true},
		{snap(5, 2, "a"), false}, {snap(4, 2, "a"), false}, {snap(6, 2, "a"), true}, {snap(8, 2, "a"), true}, {snap(9, 2, "a"), true}, {snap(1000000, 1, "a"), true}, {snap(1000001, 1, "a"), false},
		{snap(-1, 2, "a"), false}, {snap(math.MinInt, 2, "a"), false}, {snap(math.MaxInt, 2, "a"), false},
		{snap(6, 0, "a"), false}, {snap(6, -1, "a"), false}, {snap(6, 1000000, "a"), true}, {snap(6, 1000001, "a"), false},
		{snap(6, 1, ""), true}, {snap(6, 1, text[1:]), true}, {snap(6, 1, text), false},
		{api.Record{}, false}, {api.Record{Kind: 4}, false}, {api.Record{Kind: -1}, false}, {api.Record{Kind: math.MaxInt}, false}, {api.Record{Kind: math.MinInt}, false},
		// What the kind does not name is not asked.
		{api.Record{Kind: api.RecHard, Hard: api.Hard{Term: 1}, At: -5, Entries: many, Snap: api.Snapshot{Text: text}}, true},
		{api.Record{Kind: api.RecTail, At: 9, Hard: api.Hard{Term: -1}, Snap: api.Snapshot{Mark: api.Spot{Index: -9}}}, true},
		{api.Record{Kind: api.RecSnap, Snap: api.Snapshot{Mark: api.Spot{Index: 7, Term: 1}}, Hard: api.Hard{Vote: 99}, At: 700, Entries: many}, true},
	} {
		s, d := newStore(t, api.MaxDisk)
		put(t, s, hard(2, 2), snap(5, 1, "ahead"), tail(6, entry(1, "six"), entry(2, "seven"), entry(2, "eight")))
		ahead := told(s)
		want, fits := turned(ahead, c.r)
		if fits != c.fits {
			t.Fatalf("%d: the test is at odds with itself", i)
		}
		was := dump(d)
		e := s.Put([]api.Record{hard(9, 1), c.r, hard(8, 1)})
		if !fits {
			if e != api.ErrStoreRecord || !slices.Equal(dump(d), was) {
				t.Errorf("S3, P4.3: %d: a record that does not fit: %d", i, e)
			}
			keeps(t, "P4.3", s, ahead)
			continue
		}
		if e != api.OK {
			t.Errorf("S3: %d: a record that fits: %d", i, e)
		}
		want.hard = api.Hard{Term: 8, Vote: 1}
		keeps(t, "S3", s, want)
		sync(t, s)
		d.Crash(nil)
		keeps(t, "S5", open(t, d), want)
	}
}

// TestFitsWhatThoseAheadLeave: the records of one Put are held against what those ahead of them made.
func TestFitsWhatThoseAheadLeave(t *testing.T) {
	a := entry(1, "a")
	s, _ := newStore(t, 3000)
	for i, l := range [][]api.Record{
		{tail(1, a, a), tail(2), tail(3)},
		{snap(4, 1, ""), snap(4, 1, "")},
		{snap(4, 1, ""), tail(1, a)},
		{tail(1, a), snap(3, 1, ""), tail(3, a)},
	} {
		if e := s.Put(l); e != api.ErrStoreRecord {
			t.Errorf("S3: %d: %d", i, e)
		}
		keeps(t, "P4.3", s, state{})
	}
	put(t, s, tail(1, a, a), tail(3, a), snap(2, 1, "two"), tail(3), tail(3, a, a), snap(9, 1, "nine"), tail(10, a))
	keeps(t, "S3", s, state{snap: api.Snapshot{Mark: api.Spot{Index: 9, Term: 1}, Text: "nine"}, log: []api.Entry{a}})
}

func TestLost(t *testing.T) {
	first := state{hard: api.Hard{Term: 4, Vote: 1}, snap: api.Snapshot{Mark: api.Spot{Index: 2, Term: 1}, Text: "t"}, log: []api.Entry{entry(2, "e")}}
	for name, lose := range map[string]func(s *store.Store, d *disk.Disk){
		"Put, down":         func(s *store.Store, d *disk.Disk) { d.Fuse(0); s.Put([]api.Record{hard(5, 1)}) },
		"Put of none, down": func(s *store.Store, d *disk.Disk) { d.Fuse(0); s.Put(nil) },
		"a bad Put, down":   func(s *store.Store, d *disk.Disk) { d.Fuse(0); s.Put([]api.Record{{Kind: 9}}) },
		"Sync, down":        func(s *store.Store, d *disk.Disk) { d.Fuse(0); s.Sync() },
		"Hard, down":        func(s *store.Store, d *disk.Disk) { d.Fuse(0); s.Hard() },
		"Snap, down":        func(s *store.Store, d *disk.Disk) { d.Fuse(0); s.Snap() },
		"Log, down":         func(s *store.Store, d *disk.Disk) { d.Fuse(0); s.Log() },
		"crashed":           func(s *store.Store, d *disk.Disk) { d.Crash([]int{99999}) },
		"crashed twice":     func(s *store.Store, d *disk.Disk) { d.Crash(nil); d.Crash(nil) },
		"on the way":        func(s *store.Store, d *disk.Disk) { d.Fuse(1); s.Sync(); s.Sync() },
	} {
		s, d := newStore(t, 2000)
		put(t, s, hard(4, 1), snap(2, 1, "t"), tail(3, entry(2, "e")))
		sync(t, s)
		keeps(t, "S4", s, first)
		lose(s, d)
		d.Fuse(-1) // what is lost stays so
		was := dump(d)
		keeps(t, "lost: "+name, s, state{})
		for _, l := range [][]api.Record{nil, {hard(6, 1)}, {{Kind: 9}}, {tail(1, entry(1, "x"))}} {
			if e := s.Put(l); e != api.ErrDiskDown {
				t.Errorf("lost: %s: Put: %d", name, e)
			}
		}
		if e := s.Sync(); e != api.ErrDiskDown {
			t.Errorf("lost: %s: Sync: %d", name, e)
		}
		if s.Log() != nil || !slices.Equal(dump(d), was) {
			t.Errorf("lost: %s: it still goes on", name)
		}
		keeps(t, "S5: behind "+name, open(t, d), first)
	}
	// A disk that was down while nothing was called is nobody's loss.
	s, d := newStore(t, 2000)
	put(t, s, hard(4, 1))
	d.Fuse(0)
	d.Fuse(-1)
	keeps(t, "S4", s, state{hard: api.Hard{Term: 4, Vote: 1}})
}

// world is a disk under records, syncs, fuses and crashes, and what an Open may find.
type world struct {
	t    *testing.T
	r    *rand.Rand
	d    *disk.Disk
	s    *store.Store
	may  []state // by the records that were put since the last Open, one by one: what is kept behind each
	safe int     // the first of these that may be found behind a crash
	lost bool
}

func newWorld(t *testing.T, seed int64, room int) *world {
	s, d := newStore(t, room)
	return &world{t: t, r: rand.New(rand.NewSource(seed)), d: d, s: s, may: []state{{}}}
}

func (w *world) now() state { return w.may[len(w.may)-1] }

func (w *world) text(most int) string {
	b := make([]byte, w.r.Intn(most+1))
	for i := range b {
		b[i] = byte(w.r.Intn(256))
	}
	return string(b)
}

// record fits most of the time.
func (w *world) record(s state, most int) api.Record {
	mark, last := s.snap.Mark.Index, s.snap.Mark.Index+len(s.log)
	switch w.r.Intn(8) {
	case 0, 1:
		return hard(w.r.Intn(1000000), w.r.Intn(8))
	case 2:
		return snap(mark+1+w.r.Intn(len(s.log)+2), 1+w.r.Intn(3), w.text(most))
	case 3:
		return api.Record{Kind: w.r.Intn(6) - 1, At: last - 1 + w.r.Intn(4), Hard: api.Hard{Vote: w.r.Intn(10)}}
	}
	at := last + 1
	if w.r.Intn(3) == 0 {
		at = mark + 1 + w.r.Intn(len(s.log)+1)
	}
	var l []api.Entry
	for range w.r.Intn(4) {
		l = append(l, api.Entry{Term: 1 + w.r.Intn(3), Kind: 1 + w.r.Intn(2), Text: w.text(most)})
	}
	return tail(at, l...)
}

func (w *world) put() {
	var l []api.Record
	var after []state
	fits, ahead := true, w.now()
	for range w.r.Intn(4) {
		r := w.record(ahead, 1+w.d.Room()/30)
		l = append(l, r)
		ok := false
		ahead, ok = turned(ahead, r)
		fits = fits && ok
		after = append(after, ahead)
	}
	was := dump(w.d)
	switch e := w.s.Put(l); e {
	case api.ErrDiskDown:
		if w.d.Up() && !w.lost {
			w.t.Fatalf("S3: ErrDiskDown, and the disk is up")
		}
		if fits && !w.lost {
			w.may = append(w.may, after...)
		}
		w.lost = true
	case api.ErrStoreRecord:
		if fits || w.lost || !slices.Equal(dump(w.d), was) {
			w.t.Fatalf("P4.3: ErrStoreRecord: fits %v", fits)
		}
		keeps(w.t, "P4.3", w.s, w.now())
	case api.ErrDiskFull:
		if !fits || w.lost {
			w.t.Fatalf("S3: ErrDiskFull: fits %v", fits)
		}
		if 8*counted(w.now()) <= w.d.Room() && 8*countedRecords(l) <= w.d.Room() {
			w.t.Fatalf("P4.2: ErrDiskFull: %d kept, %d put, room %d", counted(w.now()), countedRecords(l), w.d.Room())
		}
		keeps(w.t, "P4.3", w.s, w.now())
	case api.OK:
		if !fits || w.lost {
			w.t.Fatalf("S3: OK: fits %v", fits)
		}
		w.may = append(w.may, after...)
		keeps(w.t, "S3", w.s, w.now())
	default:
		w.t.Fatalf("S3: Put of %d records: %d", len(l), e)
	}
}

func (w *world) sync() {
	switch e := w.s.Sync(); {
	case e == api.OK && !w.lost:
		w.safe = len(w.may) - 1
		keeps(w.t, "S4", w.s, w.now())
	case e == api.ErrDiskDown && (w.lost || !w.d.Up()):
		w.lost = true
	default:
		w.t.Fatalf("S4: Sync: %d", e)
	}
}

func (w *world) crash() {
	keep := []int{w.r.Intn(400) - 50, w.r.Intn(400) - 50}
	if w.r.Intn(3) == 0 {
		keep[w.r.Intn(2)] = 1 << 30
	}
	w.d.Crash(keep[:w.r.Intn(3)])
	w.lost = true
}

// reopen is cut off some times, and crashes come between; what there is must be one of what may be.
func (w *world) reopen() {
	if w.r.Intn(4) > 0 {
		w.crash()
	}
	w.d.Fuse(-1)
	for range w.r.Intn(3) {
		want := state{}
		if s, e := store.Open(w.d.Copy()); e == api.OK {
			want = told(s)
		} else {
			w.t.Fatalf("S2: Open of a copy: %d", e)
		}
		waits := w.d.Copy().Crash(nil)
		w.d.Fuse(w.r.Intn(4))
		s, e := store.Open(w.d)
		if e == api.OK {
			keeps(w.t, "S2: an Open with a fuse", s, want)
		} else if s != nil || e != api.ErrDiskDown {
			w.t.Fatalf("S2: Open with a fuse: %v, %d", s, e)
		}
		w.crash()
		if waits == 0 {
			keeps(w.t, "P4.1", open(w.t, w.d.Copy()), want)
		}
	}
	w.s = open(w.t, w.d)
	found := told(w.s)
	if !slices.ContainsFunc(w.may[w.safe:], found.is) {
		w.t.Fatalf("S5: found %v, of %d that may be (%d safe)", brief(found), len(w.may), w.safe)
	}
	// What an Open found is what all behind it stands on.
	c := w.d.Copy()
	c.Crash(nil)
	keeps(w.t, "S5: what an Open found is safe", open(w.t, c), found)
	w.may, w.safe, w.lost = []state{found}, 0, false
}

func TestBehindCrashes(t *testing.T) {
	full := 0
	for seed := range 400 {
		rooms := []int{256, 300, 400, 600, 800, 1000, 1500, 3000, 9000}
		w := newWorld(t, int64(seed), rooms[seed%len(rooms)])
		for range 120 {
			switch w.r.Intn(10) {
			case 0, 1:
				w.sync()
			case 2:
				w.d.Fuse(w.r.Intn(7))
			case 3:
				w.reopen()
			default:
				w.put()
			}
			if w.d.Used() > w.d.Room()-50 {
				full++
			}
			if w.lost && w.r.Intn(2) == 0 {
				w.reopen()
			}
		}
		if t.Failed() {
			t.Fatalf("seed %d", seed)
		}
	}
	if full == 0 {
		t.Errorf("the test never filled a disk")
	}
}

// TestEveryPoint goes on, from disks that are nearly full, by a Put and a Sync that are cut off at each change, and lets all kinds of beginnings survive.
func TestEveryPoint(t *testing.T) {
	a := entry(1, "some text of an entry")
	for _, last := range [][]api.Record{
		{hard(7, 7), tail(2, a), hard(8, 1)},
		{tail(1), tail(1, a, a, a, a, a)},
		{tail(1, slices.Repeat([]api.Entry{a}, 9)...), snap(9, 1, "snapshot"), hard(9, 2)},
		{snap(100, 5, strings.Repeat("s", 200)), tail(101, a)},
	} {
		s, d := newStore(t, 700)
		put(t, s, tail(1, a, a))
		for n := range 30 {
			put(t, s, hard(n, 1))
			if n%5 == 0 {
				sync(t, s)
				everyPoint(t, d, told(s), last)
			}
		}
		sync(t, s)
		everyPoint(t, d, told(s), last)
	}
}

func everyPoint(t *testing.T, d *disk.Disk, ahead state, l []api.Record) {
	t.Helper()
	may := []state{ahead}
	for _, r := range l {
		next, ok := turned(may[len(may)-1], r)
		if !ok {
			t.Fatalf("the test's own record does not fit")
		}
		may = append(may, next)
	}
	for fuse := range 10 {
		for _, keep := range keepsOf() {
			c := d.Copy()
			s := open(t, c)
			c.Fuse(fuse)
			puts, syncs := s.Put(l), s.Sync()
			if fuse == 9 && (puts != api.OK || syncs != api.OK) {
				t.Fatalf("S3, S4: with a fuse that is not used up: %d, %d", puts, syncs)
			}
			c.Crash(keep)
			found := told(open(t, c))
			left := may
			if syncs == api.OK {
				left = may[len(may)-1:]
			}
			if !slices.ContainsFunc(left, found.is) {
				t.Fatalf("P4.4: fuse %d, keep %v, Put %d, Sync %d: found %v", fuse, keep, puts, syncs, brief(found))
			}
		}
	}
}

// keepsOf: the segments' own beginnings, of each length, with none or all of the other one.
func keepsOf() [][]int {
	l := [][]int{nil, {0, 1 << 20}, {1 << 20, 1 << 20}}
	for n := 1; n < 330; n += 7 {
		l = append(l, []int{n}, []int{n, 1 << 20}, []int{0, n}, []int{1 << 20, n})
	}
	return l
}

// TestLongRecords: a record may be longer than a frame; a part of one is never found.
func TestLongRecords(t *testing.T) {
	big := entry(3, strings.Repeat("b", api.MaxCommand))
	s, d := newStore(t, api.MaxDisk)
	put(t, s, hard(3, 3), tail(1, entry(1, "first")), snap(1, 1, strings.Repeat("s", api.MaxSnapshot)))
	sync(t, s)
	ahead := told(s)
	long := tail(2, slices.Repeat([]api.Entry{big}, 60)...)
	put(t, s, long, hard(4, 4))
	behind := told(s)
	middle := behind
	middle.hard = ahead.hard
	if len(behind.log) != 60 {
		t.Fatalf("S3: %d entries", len(behind.log))
	}
	safe := d.Copy()
	safe.Crash(nil)
	size := d.Used() - safe.Used()
	seen := map[int]int{}
	var cuts []int
	for n := 0; n <= size; n += 7001 {
		cuts = append(cuts, n)
	}
	for _, edge := range []int{api.MaxFrame + 8, 2*api.MaxFrame + 16, 3*api.MaxFrame + 24, size - 12, size} {
		for n := edge - 13; n <= edge; n++ {
			cuts = append(cuts, n)
		}
	}
	for _, n := range cuts {
		c := d.Copy()
		c.Crash([]int{n})
		found := told(open(t, c))
		i := slices.IndexFunc([]state{ahead, middle, behind}, found.is)
		if i < 0 {
			t.Fatalf("S5: %d of %d bytes survived: %v", n, size, brief(found))
		}
		seen[i]++
		// What is torn is out of the way of what comes behind it.
		put(t, open(t, c), hard(9, 2))
		found.hard = api.Hard{Term: 9, Vote: 2}
		keeps(t, "S5: behind a torn end", open(t, c), found)
	}
	if len(seen) != 3 {
		t.Errorf("the test tore in %d ways only", len(seen))
	}
	// And it goes anew in one piece: the disk fills up till what is kept is written again.
	for n := range 4000 {
		put(t, s, hard(n, 1), tail(62, big), tail(62))
	}
	sync(t, s)
	d.Crash(nil)
	behind.hard = api.Hard{Term: 3999, Vote: 1}
	keeps(t, "S5", open(t, d), behind)
}

// TestRoom puts what P4.2 says that there is room for, at its edge, over and over, crashes between.
func TestRoom(t *testing.T) {
	for _, room := range []int{800, 801, 1000, 1120, 1600, 2000, 4000, 16000, 100001, api.MaxDisk} {
		eighth := room / 8
		s, d := newStore(t, room)
		rounds := 400
		if room > 10000 {
			rounds = 60
		}
		for n := range rounds {
			ahead := told(s)
			for i, l := range roomy(eighth, ahead, n) {
				if countedRecords(l) > eighth || counted(ahead) > eighth {
					t.Fatalf("room %d: the test's own %d. Put is too great", room, i)
				}
				if e := s.Put(l); e != api.OK {
					t.Fatalf("P4.2: room %d, round %d, Put %d: %d", room, n, i, e)
				}
				ahead = told(s)
			}
			if n%3 == 0 {
				sync(t, s)
			}
			if n%5 == 0 {
				d.Crash([]int{n * 7 % 300, n * 11 % 500})
				s = open(t, d)
			}
			if n%5 == 0 || counted(told(s)) > eighth { // what survived may be more than an eighth: it goes
				mark := s.Snap().Mark.Index
				if e := s.Put([]api.Record{tail(mark + 1), snap(mark+1, 1, "")}); e != api.OK && counted(ahead) <= eighth && eighth >= 200 {
					t.Fatalf("P4.2: room %d: %d", room, e)
				}
				if counted(told(s)) > eighth {
					t.Fatalf("room %d: a small Put that empties the log did not go", room)
				}
			}
		}
	}
}

// roomy are Puts of at most so many counted bytes each, behind each of which at most so many are kept.
func roomy(eighth int, s state, n int) [][]api.Record {
	mark := s.snap.Mark.Index
	l := [][]api.Record{{hard(n, n%8)}}
	for range (eighth - 100) / 100 % 40 {
		l[0] = append(l[0], hard(1000000, 7))
	}
	if eighth < 200 {
		return l
	}
	var entries []api.Entry
	left := eighth - 100
	for left >= 40 && len(entries) < api.MaxLog {
		text := strings.Repeat("e", min((left-40)/(1+n%3), api.MaxCommand))
		entries = append(entries, entry(1000000, text))
		left -= 40 + len(text)
	}
	return append(l,
		[]api.Record{snap(mark+1, 1, strings.Repeat("s", min(eighth-100, api.MaxSnapshot)))},
		[]api.Record{snap(mark+2, 1000000, "")},
		[]api.Record{tail(mark+3, entries...)},
		[]api.Record{tail(mark + 3)},
	)
}

// TestRoomBehindATornPut: where a Put that makes the log great and small again is torn between the two, there is room still.
func TestRoomBehindATornPut(t *testing.T) {
	tested := 0
	for text := 0; text < 60; text += 9 {
		grow := tail(1, entry(1, strings.Repeat("g", text)), entry(1, "two"))
		s, d := newStore(t, 2400)
		for range 400 {
			put(t, s, hard(1000000, 7))
			sync(t, s)
			c := d.Copy()
			for _, keep := range []int{text + 40, text + 30} {
				torn := c.Copy()
				put(t, open(t, torn), grow, tail(1))
				torn.Crash([]int{keep})
				s := open(t, torn)
				if len(s.Log()) != 2 || counted(told(s)) > 300 {
					continue
				}
				tested++
				put(t, s, tail(3, entry(1, strings.Repeat("t", 160))))
			}
		}
	}
	if tested < 100 {
		t.Errorf("P4.2: the test tore only %d times where it was to", tested)
	}
}

// TestFirstPutThatShrinks: what a first Put makes is small, its records are not; it goes at once as what they make.
func TestFirstPutThatShrinks(t *testing.T) {
	a := entry(1, "some text of an entry")
	for _, room := range []int{256, 300, 400} {
		for fuse := range 6 {
			s, d := newStore(t, room)
			d.Fuse(fuse)
			e := s.Put([]api.Record{tail(1, a, a, a, a, a, a, a, a, a, a, a), snap(11, 1, "small"), tail(12, a)})
			want := state{snap: api.Snapshot{Mark: api.Spot{Index: 11, Term: 1}, Text: "small"}, log: []api.Entry{a}}
			if fuse == 5 && e != api.OK || e != api.OK && e != api.ErrDiskDown {
				t.Fatalf("S3: room %d, fuse %d: %d", room, fuse, e)
			}
			if e == api.OK {
				keeps(t, "S3", s, want)
				d.Fuse(-1)
				sync(t, s)
			}
			d.Crash(nil)
			if found := told(open(t, d)); !found.is(want) && (e == api.OK || !found.is(state{})) {
				t.Fatalf("P4.4: room %d, fuse %d: %v", room, fuse, brief(found))
			}
		}
	}
}

// TestNeverStuck: a store that is full for more entries still takes what makes it no greater, and what makes it small.
func TestNeverStuck(t *testing.T) {
	for _, room := range []int{256, 300, 512, 700, 1000, 5000} {
		s, d := newStore(t, room)
		n := 1
		for ; s.Put([]api.Record{tail(n, entry(1, "text"))}) == api.OK; n++ {
		}
		full := told(s)
		was := dump(d)
		if e := s.Put([]api.Record{tail(n, entry(1, "text"))}); e != api.ErrDiskFull || !slices.Equal(dump(d), was) {
			t.Errorf("P4.3: room %d: %d", room, e)
		}
		keeps(t, "P4.3", s, full)
		for i := range 200 {
			put(t, s, hard(i, 1))
		}
		put(t, s, tail(1))
		keeps(t, "S3", s, state{hard: api.Hard{Term: 199, Vote: 1}})
		put(t, s, tail(1, entry(2, "text")))
		sync(t, s)
		d.Crash(nil)
		keeps(t, "S5", open(t, d), state{hard: api.Hard{Term: 199, Vote: 1}, log: []api.Entry{entry(2, "text")}})
		if n < room/50 {
			t.Errorf("S3: a disk with room for %d bytes is full with %d entries of 4 bytes", room, n)
		}
	}
}

// nearlyFull is a disk on which the next small Put has to write anew what is kept.
func nearlyFull(t *testing.T) *disk.Disk {
	t.Helper()
	a := entry(1, "some text of an entry")
	s, d := newStore(t, 600)
	put(t, s, tail(1, a, a))
	sync(t, s)
	for {
		was := d.Copy()
		put(t, s, hard(1, 2))
		if d.Used() < was.Used() {
			return was
		}
	}
}

// TestCutOffOpens: behind a crash in the midst of what is written anew, Opens are cut off at each of their changes, and each is followed by a crash.
func TestCutOffOpens(t *testing.T) {
	full := nearlyFull(t)
	seen := map[int]int{}
	for fuse := range 6 {
		for keep := 0; keep < 500; keep += 7 {
			d := full.Copy()
			s := open(t, d)
			d.Fuse(fuse)
			s.Put([]api.Record{hard(7, 7), tail(3, entry(1, "more"))})
			d.Crash([]int{keep})
			seen[len(d.Segments())]++
			want := told(open(t, d.Copy()))
			for cut := range 6 {
				d.Fuse(cut)
				if s, e := store.Open(d); e == api.OK {
					keeps(t, "P4.1", s, want)
				} else if s != nil || e != api.ErrDiskDown {
					t.Fatalf("S2: %v, %d", s, e)
				}
				d.Crash([]int{cut})
				keeps(t, "P4.1", open(t, d.Copy()), want)
			}
		}
	}
	if seen[1] == 0 || seen[2] == 0 {
		t.Errorf("the test left one segment %d times, two %d times", seen[1], seen[2])
	}
}

// TestOpenWithoutCrash: what waits on a disk that was only down is found, and is safe then; also where the newer of two segments waits.
func TestOpenWithoutCrash(t *testing.T) {
	full := nearlyFull(t)
	ahead := told(open(t, full.Copy()))
	last := hard(9, 7)
	behind, _ := turned(ahead, last)
	for fuse := range 6 {
		d := full.Copy()
		s := open(t, d)
		d.Fuse(fuse)
		s.Put([]api.Record{last})
		d.Fuse(-1)
		for cut := range 6 {
			c := d.Copy()
			c.Fuse(cut)
			store.Open(c)
			c.Crash(nil)
			if found := told(open(t, c)); !found.is(ahead) && !found.is(behind) {
				t.Fatalf("P4.1, S5: fuse %d, cut %d: found %v", fuse, cut, brief(found))
			}
		}
		s = open(t, d)
		found := told(s)
		if want := []state{ahead, behind}[min(fuse, 1)]; !found.is(want) {
			t.Fatalf("S5: fuse %d: found %v, want %v", fuse, brief(found), brief(want))
		}
		if len(d.Segments()) != 1 {
			t.Errorf("P4.2: Open left the segments %v", d.Segments())
		}
		d.Crash(nil)
		keeps(t, "S5: what an Open found is safe", open(t, d), found)
	}
}

// TestStrangeDisks: whatever a disk holds, Open ends, and what it answers may be used.
func TestStrangeDisks(t *testing.T) {
	r := rand.New(rand.NewSource(1))
	frames := func(l ...string) string {
		b := ""
		for _, s := range l {
			f, _ := seal.Frame(s)
			b += f
		}
		return b
	}
	most := "\xff\xff\xff\xff\xff\xff\xff\xff\xff\x01"
	many := "\xff\xff\xff\xff\xff\xff\xff\xff\x7f"
	texts := []string{"x", frames(""), frames("\x01"), frames("\x00"), frames("\x02abc"), frames("\x01\x02" + most + most), frames("\x01\x02\x01" + many), frames("\x01\x04" + strings.Repeat("\x00", 6) + many), frames("\x01\x04" + strings.Repeat(most, 7)), frames("\x01\x01" + most + most), frames("\x01\x03" + most + most + "\x00"),
		frames("\x01\x02\x01\x00"), frames("\x01\x02\x01\x00", "\x01\x02\x05\x00"), frames("\x01\x01\x01\x01more"), frames("\x00\x01", "\x00\x01", "\x01\x01"), frames("\x01\x05")}
	for i := range 3000 {
		d := newDisk(t, 5000)
		for range 1 + r.Intn(3) {
			b := texts[r.Intn(len(texts))]
			if r.Intn(2) == 0 {
				junk := make([]byte, 1+r.Intn(30))
				r.Read(junk)
				for j := range junk {
					junk[j] %= 6
				}
				b += frames("\x01" + string(junk))
			}
			d.Append([]int{0, 1, 2, 999}[r.Intn(4)], b)
		}
		s, e := store.Open(d)
		if s == nil && e != api.ErrStoreForm || s != nil && e != api.OK {
			t.Fatalf("S2: %d: %v, %d", i, s, e)
		}
		if s == nil {
			continue
		}
		s.Put([]api.Record{hard(1, 1), tail(s.Snap().Mark.Index+1, entry(1, "x")), snap(s.Snap().Mark.Index+1, 1, "y")})
		s.Sync()
		told(s)
	}
}

func TestNothingIsShared(t *testing.T) {
	s, d := newStore(t, 1000)
	given := []api.Entry{entry(1, "a"), entry(1, "b"), entry(1, "c")}
	l := []api.Record{tail(1, given[:2]...)}
	put(t, s, l...)
	if !slices.Equal(given, []api.Entry{entry(1, "a"), entry(1, "b"), entry(1, "c")}) {
		t.Errorf("R5: Put changed what it was handed: %v", given)
	}
	given[0].Text = "turned"
	l[0] = hard(1, 1)
	want := state{log: []api.Entry{entry(1, "a"), entry(1, "b")}}
	keeps(t, "R5: what was handed in is kept", s, want)
	if unsafe.StringData(s.Log()[1].Text) == unsafe.StringData(given[1].Text) {
		t.Errorf("R5: the memory of what was handed in is kept")
	}
	text := strings.Repeat("text", 3)
	c := open(t, d.Copy())
	put(t, c, snap(1, 1, text))
	if unsafe.StringData(c.Snap().Text) == unsafe.StringData(text) {
		t.Errorf("R5: the memory of what was handed in is kept")
	}
	log := s.Log()
	log[1].Text = "turned"
	log = append(log[:1], entry(9, "turned"))
	keeps(t, "R5: what was answered is kept", s, want)
	old := s.Log()
	put(t, s, tail(2, entry(2, "x")), tail(3, entry(2, "y")))
	if !slices.Equal(old, want.log) {
		t.Errorf("R5: an answer was changed by a Put: %v", old)
	}
	now := told(s)
	other := open(t, d.Copy())
	put(t, other, tail(1))
	keeps(t, "P3.3", s, now)
	keeps(t, "S5", open(t, d), now)
}
