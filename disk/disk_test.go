package disk_test

import (
	"math"
	"math/rand"
	"slices"
	"strings"
	"testing"

	"rialto/api"
	"rialto/disk"
)

// plain is a disk as the chapter's words say it: safe and waiting bytes apart, a fuse that is counted down.
type plain struct {
	room  int
	safe  map[int]string
	waits map[int]string
	fuse  int // -1: none
	age   int
}

func newPlain(room int) *plain {
	return &plain{room: room, safe: map[int]string{}, waits: map[int]string{}, fuse: -1}
}

func (p *plain) bytes(segment int) string { return p.safe[segment] + p.waits[segment] }

func (p *plain) down() bool { return p.fuse == 0 }

func (p *plain) there() []int {
	var l []int
	for _, n := range numbers {
		if p.bytes(n) != "" {
			l = append(l, n)
		}
	}
	return l
}

func (p *plain) used() int {
	n := 0
	for _, segment := range p.there() {
		n += len(p.bytes(segment))
	}
	return n
}

func (p *plain) gone() api.Errno {
	if p.fuse > 0 {
		p.fuse--
	}
	return api.OK
}

func (p *plain) Append(segment int, bytes string) api.Errno {
	switch {
	case p.down():
		return api.ErrDiskDown
	case segment < 0 || segment > 999 || bytes == "":
		return api.ErrArg
	case p.used()+len(bytes) > p.room:
		return api.ErrDiskFull
	}
	p.waits[segment] += bytes
	return p.gone()
}

func (p *plain) Sync() api.Errno {
	if p.down() {
		return api.ErrDiskDown
	}
	for _, segment := range p.there() {
		p.safe[segment], p.waits[segment] = p.bytes(segment), ""
	}
	return p.gone()
}

func (p *plain) Cut(segment, n int) api.Errno {
	whole, safe := p.bytes(segment), len(p.safe[segment])
	switch {
	case p.down():
		return api.ErrDiskDown
	case whole == "":
		return api.ErrDiskNone
	case n < 0 || n > len(whole):
		return api.ErrArg
	}
	p.safe[segment], p.waits[segment] = whole[:min(n, safe)], whole[min(n, safe):n]
	return p.gone()
}

func (p *plain) Drop(segment int) api.Errno {
	switch {
	case p.down():
		return api.ErrDiskDown
	case p.bytes(segment) == "":
		return api.ErrDiskNone
	}
	p.safe[segment], p.waits[segment] = "", ""
	return p.gone()
}

func (p *plain) Fuse(n int) api.Errno {
	if n < -1 {
		return api.ErrArg
	}
	p.fuse = n
	return api.OK
}

func (p *plain) Crash(keep []int) int {
	i := 0
	for _, segment := range p.there() {
		waits := p.waits[segment]
		if waits == "" {
			continue
		}
		n := 0
		if i < len(keep) && keep[i] > 0 {
			n = min(keep[i], len(waits))
		}
		p.safe[segment], p.waits[segment] = p.safe[segment]+waits[:n], ""
		i++
	}
	p.fuse = -1
	p.age++
	return i
}

func newDisk(t *testing.T, room int) *disk.Disk {
	t.Helper()
	d, e := disk.New(room)
	if d == nil || e != api.OK {
		t.Fatalf("D1: New(%d): %v, %d", room, d, e)
	}
	return d
}

func want(t *testing.T, promise string, is, want api.Errno) {
	t.Helper()
	if is != want {
		t.Errorf("%s: answered %d, want %d", promise, is, want)
	}
}

func reads(t *testing.T, promise string, d *disk.Disk, segment int, bytes string, e api.Errno) {
	t.Helper()
	if s, is := d.Read(segment); s != bytes || is != e {
		t.Errorf("%s: Read(%d) = %q, %d, want %q, %d", promise, segment, s, is, bytes, e)
	}
}

// same holds all that a disk tells against the plain one.
func same(t *testing.T, d *disk.Disk, p *plain, segments []int) {
	t.Helper()
	if d.Room() != p.room || d.Used() != p.used() || d.Up() == p.down() || d.Age() != p.age {
		t.Fatalf("D8: room %d, used %d, up %v, age %d, want %d, %d, %v, %d", d.Room(), d.Used(), d.Up(), d.Age(), p.room, p.used(), !p.down(), p.age)
	}
	var there []int
	if !p.down() {
		there = p.there()
	}
	if l := d.Segments(); !slices.Equal(l, there) {
		t.Fatalf("D5: Segments = %v, want %v", l, there)
	}
	for _, segment := range segments {
		s, e := d.Read(segment)
		switch {
		case p.down():
			if s != "" || e != api.ErrDiskDown {
				t.Fatalf("D5: Read(%d) of what is down = %q, %d", segment, s, e)
			}
		case p.bytes(segment) == "":
			if s != "" || e != api.ErrDiskNone {
				t.Fatalf("D5: Read(%d) of none = %q, %d", segment, s, e)
			}
		case s != p.bytes(segment) || e != api.OK:
			t.Fatalf("D5: Read(%d) = %q, %d, want %q", segment, s, e, p.bytes(segment))
		}
	}
}

// numbers, rising, are those of the segments that the acts use; strange ones are of none.
var numbers = []int{0, 1, 2, 3, 500, 998, 999}
var strange = []int{-1, 1000, 1001, math.MinInt, math.MaxInt}

func anySegment(r *rand.Rand) int {
	if r.Intn(20) == 0 {
		return strange[r.Intn(len(strange))]
	}
	return numbers[r.Intn(len(numbers))]
}

func anyBytes(r *rand.Rand) string {
	switch r.Intn(12) {
	case 0:
		return ""
	case 1:
		return strings.Repeat("z", r.Intn(300))
	}
	b := make([]byte, 1+r.Intn(20))
	for i := range b {
		b[i] = byte(r.Intn(256))
	}
	return string(b)
}

func anyKeep(r *rand.Rand) []int {
	var l []int
	for range r.Intn(6) {
		l = append(l, []int{-1, 0, 1, 2, 5, 1000, math.MinInt, math.MaxInt}[r.Intn(8)])
	}
	return l
}

// step does one act on both, and holds what they answer against each other.
func step(t *testing.T, r *rand.Rand, d *disk.Disk, p *plain) {
	t.Helper()
	segment := anySegment(r)
	switch r.Intn(12) {
	case 0, 1, 2, 3:
		bytes := anyBytes(r)
		want(t, "D2", d.Append(segment, bytes), p.Append(segment, bytes))
	case 4, 5:
		want(t, "D3", d.Sync(), p.Sync())
	case 6, 7:
		n := r.Intn(40) - 2
		want(t, "D4", d.Cut(segment, n), p.Cut(segment, n))
	case 8:
		want(t, "D4", d.Drop(segment), p.Drop(segment))
	case 9, 10:
		n := r.Intn(12) - 3
		want(t, "D6", d.Fuse(n), p.Fuse(n))
	case 11:
		keep := anyKeep(r)
		was := slices.Clone(keep)
		if n, want := d.Crash(keep), p.Crash(keep); n != want {
			t.Errorf("D7: Crash(%v) = %d, want %d", keep, n, want)
		}
		if !slices.Equal(keep, was) {
			t.Errorf("R5: Crash changed what it was handed")
		}
	}
}

func TestAsTheWordsSay(t *testing.T) {
	all := append(slices.Clone(numbers), strange...)
	for seed := range 300 {
		r := rand.New(rand.NewSource(int64(seed)))
		room := 256 + r.Intn(200)
		d, p := newDisk(t, room), newPlain(room)
		for range 150 {
			step(t, r, d, p)
			same(t, d, p, all)
			if t.Failed() {
				t.Fatalf("seed %d", seed)
			}
		}
	}
}

func TestNew(t *testing.T) {
	for _, room := range []int{256, 257, 1048575, 1048576} {
		d := newDisk(t, room)
		if d.Room() != room || d.Used() != 0 || len(d.Segments()) != 0 || !d.Up() || d.Age() != 0 {
			t.Errorf("D1: New(%d) is not empty, or down", room)
		}
		want(t, "D1: all of the room", d.Append(0, strings.Repeat("x", room)), api.OK)
		want(t, "D1: no more than the room", d.Append(1, "x"), api.ErrDiskFull)
	}
	for _, room := range []int{math.MinInt, -256, 0, 1, 255, 1048577, math.MaxInt} {
		if d, e := disk.New(room); d != nil || e != api.ErrArg {
			t.Errorf("D1: New(%d): %v, %d", room, d, e)
		}
	}
}

func TestExamples(t *testing.T) {
	d := newDisk(t, 256)
	d.Append(3, "abcd")
	d.Sync()
	d.Append(3, "efgh")
	d.Append(1, "x")
	if n := d.Crash([]int{0, 2}); n != 2 || !slices.Equal(d.Segments(), []int{3}) {
		t.Errorf("D7: %d, %v", n, d.Segments())
	}
	reads(t, "D7", d, 3, "abcdef", api.OK)

	d = newDisk(t, 256)
	want(t, "D2", d.Append(0, strings.Repeat("x", 250)), api.OK)
	want(t, "D2", d.Append(1, "seven b"), api.ErrDiskFull)
	want(t, "D2", d.Append(1, "six by"), api.OK)

	d = newDisk(t, 256)
	d.Fuse(1)
	want(t, "D6", d.Append(2, "a"), api.OK)
	want(t, "D3", d.Sync(), api.ErrDiskDown)
	reads(t, "D5", d, 2, "", api.ErrDiskDown)
	if n := d.Crash([]int{9}); n != 1 {
		t.Errorf("D7: %d", n)
	}
	reads(t, "D7", d, 2, "a", api.OK)

	d = newDisk(t, 256)
	want(t, "D4", d.Cut(5, 0), api.ErrDiskNone)
	want(t, "D2", d.Append(5, ""), api.ErrArg)
	want(t, "D2", d.Append(1000, "a"), api.ErrArg)
}

func TestWhichErrorIsFirst(t *testing.T) {
	d := newDisk(t, 256)
	d.Append(7, "abc")
	d.Sync()
	big := strings.Repeat("x", 300)
	want(t, "R2: D2", d.Append(-1, big), api.ErrArg)
	want(t, "R2: D2", d.Append(1000, big), api.ErrArg)
	want(t, "R2: D2", d.Append(7, big), api.ErrDiskFull)
	for _, segment := range strange {
		want(t, "D2", d.Append(segment, "x"), api.ErrArg)
		want(t, "D4", d.Cut(segment, 0), api.ErrDiskNone)
		want(t, "D4", d.Drop(segment), api.ErrDiskNone)
		reads(t, "D5", d, segment, "", api.ErrDiskNone)
	}
	for _, n := range []int{math.MinInt, -1, 4, math.MaxInt} {
		want(t, "D4", d.Cut(7, n), api.ErrArg)
		want(t, "R2: D4", d.Cut(8, n), api.ErrDiskNone)
	}
	d.Fuse(0)
	if d.Up() || d.Segments() != nil {
		t.Errorf("D6: a fuse of 0 is not down")
	}
	want(t, "R2: D2", d.Append(-1, ""), api.ErrDiskDown)
	want(t, "R2: D2", d.Append(1, big), api.ErrDiskDown)
	want(t, "D3", d.Sync(), api.ErrDiskDown)
	want(t, "R2: D4", d.Cut(8, -1), api.ErrDiskDown)
	want(t, "R2: D4", d.Drop(8), api.ErrDiskDown)
	reads(t, "R2: D5", d, 8, "", api.ErrDiskDown)
	for _, n := range []int{math.MinInt, -3, -2} {
		want(t, "D6", d.Fuse(n), api.ErrArg)
		if d.Up() {
			t.Errorf("R3: a Fuse(%d) that was refused has lifted the fuse", n)
		}
	}
	want(t, "D6", d.Fuse(-1), api.OK)
	reads(t, "D6", d, 7, "abc", api.OK)
	want(t, "D6", d.Fuse(math.MaxInt), api.OK)
	want(t, "D6", d.Sync(), api.OK)
	if !d.Up() {
		t.Errorf("D6: the greatest fuse is down")
	}
}

func TestCutAndDrop(t *testing.T) {
	for n := range 9 {
		d := newDisk(t, 256)
		d.Append(4, "safe")
		d.Sync()
		d.Append(4, "wait")
		d.Append(5, "other")
		want(t, "D4", d.Cut(4, n), api.OK)
		if n == 0 {
			reads(t, "D4: none is left", d, 4, "", api.ErrDiskNone)
		} else {
			reads(t, "D4", d, 4, "safewait"[:n], api.OK)
		}
		reads(t, "P3.3", d, 5, "other", api.OK)
		if d.Used() != n+5 {
			t.Errorf("D8: Used = %d behind Cut(4, %d)", d.Used(), n)
		}
		// What was safe of what is left is safe at once, without a Sync; what waited waits.
		want(t, "D2", d.Append(4, "more"), api.OK)
		d.Crash(nil)
		if left := "safe"[:min(n, 4)]; left == "" {
			reads(t, "D4", d, 4, "", api.ErrDiskNone)
		} else {
			reads(t, "D4", d, 4, left, api.OK)
		}
	}
	d := newDisk(t, 256)
	d.Append(4, "safe")
	d.Sync()
	want(t, "D4", d.Drop(4), api.OK)
	d.Crash(nil)
	reads(t, "D4: a Drop needs no Sync", d, 4, "", api.ErrDiskNone)
	want(t, "D4", d.Drop(4), api.ErrDiskNone)
}

func TestCrash(t *testing.T) {
	for _, c := range []struct {
		keep []int
		want [3]string // of 2, 6, 9
	}{
		{nil, [3]string{"ab", "", "x"}},
		{[]int{}, [3]string{"ab", "", "x"}},
		{[]int{1}, [3]string{"abc", "", "x"}},
		{[]int{2, 1}, [3]string{"abcd", "e", "x"}},
		{[]int{-1, 2}, [3]string{"ab", "ef", "x"}},
		{[]int{math.MinInt, math.MaxInt}, [3]string{"ab", "efg", "x"}},
		{[]int{3, 4, 5}, [3]string{"abcd", "efg", "x"}},
		{[]int{0, 0, 1}, [3]string{"ab", "", "x"}}, // 9 has nothing that waits: it is not counted
	} {
		d := newDisk(t, 256)
		d.Append(9, "x")
		d.Append(2, "ab")
		d.Sync()
		d.Append(6, "efg")
		d.Append(2, "cd")
		d.Fuse(0)
		if n := d.Crash(c.keep); n != 2 || !d.Up() || d.Age() != 1 {
			t.Errorf("D7: Crash(%v) = %d, up %v, age %d", c.keep, n, d.Up(), d.Age())
		}
		for i, segment := range []int{2, 6, 9} {
			if s, _ := d.Read(segment); s != c.want[i] {
				t.Errorf("P3.2: Crash(%v): %d has %q, want %q", c.keep, segment, s, c.want[i])
			}
		}
		// What survived is safe.
		if n := d.Crash(nil); n != 0 || d.Age() != 2 {
			t.Errorf("D7: a second Crash found %d, age %d", n, d.Age())
		}
		for i, segment := range []int{2, 6, 9} {
			if s, _ := d.Read(segment); s != c.want[i] {
				t.Errorf("P3.1: behind two crashes %d has %q, want %q", segment, s, c.want[i])
			}
		}
	}
}

func TestSafeIsWhatItBeginsWith(t *testing.T) {
	for seed := range 200 {
		r := rand.New(rand.NewSource(int64(seed)))
		d := newDisk(t, 4000)
		safe := map[int]string{}
		for range 40 {
			for range r.Intn(6) {
				d.Append(r.Intn(4), anyBytes(r))
			}
			if r.Intn(3) == 0 && d.Sync() == api.OK {
				for n := range 4 {
					safe[n], _ = d.Read(n)
				}
			}
			had := map[int]string{}
			for n := range 4 {
				had[n], _ = d.Read(n)
			}
			d.Crash(anyKeep(r))
			for n := range 4 {
				s, _ := d.Read(n)
				if !strings.HasPrefix(s, safe[n]) {
					t.Fatalf("P3.1: %d was safe with %q, has %q", n, safe[n], s)
				}
				if !strings.HasPrefix(had[n], s) {
					t.Fatalf("P3.2: %d had %q, has %q", n, had[n], s)
				}
				safe[n] = s
			}
		}
	}
}

func TestFuse(t *testing.T) {
	acts := []func(d *disk.Disk) api.Errno{
		func(d *disk.Disk) api.Errno { return d.Append(1, "more") },
		func(d *disk.Disk) api.Errno { return d.Sync() },
		func(d *disk.Disk) api.Errno { return d.Cut(1, 3) },
		func(d *disk.Disk) api.Errno { return d.Append(2, "new") },
		func(d *disk.Disk) api.Errno { return d.Drop(2) },
	}
	refused := func(d *disk.Disk) { // what has another error burns nothing
		d.Append(1, "")
		d.Append(1000, "x")
		d.Append(1, strings.Repeat("x", 300))
		d.Cut(1, 100)
		d.Cut(77, 0)
		d.Drop(77)
		d.Read(1)
		d.Segments()
	}
	for n := range len(acts) + 3 {
		d := newDisk(t, 256)
		d.Append(1, "begin")
		want(t, "D6", d.Fuse(n), api.OK)
		for i, act := range acts {
			refused(d)
			if e := act(d); i < n && e != api.OK || i >= n && e != api.ErrDiskDown {
				t.Errorf("P3.4: fuse %d, change %d: %d", n, i, e)
			}
			if d.Up() != (i+1 < n) {
				t.Errorf("P3.4: fuse %d, behind change %d: up %v", n, i, d.Up())
			}
		}
		plainly := newDisk(t, 256)
		plainly.Append(1, "begin")
		for _, act := range acts[:min(n, len(acts))] {
			act(plainly)
		}
		d.Fuse(-1)
		for segment := range 4 {
			a, _ := d.Read(segment)
			if b, _ := plainly.Read(segment); a != b {
				t.Errorf("P3.4: fuse %d: %d has %q, want %q", n, segment, a, b)
			}
		}
	}
	d := newDisk(t, 256)
	d.Fuse(2)
	d.Sync()
	d.Fuse(2) // a new fuse counts from where it was set
	d.Sync()
	if !d.Up() {
		t.Errorf("D6: the fuse was not set anew")
	}
}

func TestApart(t *testing.T) {
	for seed := range 100 {
		r := rand.New(rand.NewSource(int64(seed)))
		d, p := newDisk(t, 400), newPlain(400)
		for range 60 {
			step(t, r, d, p)
		}
		was := d.Copy()
		other := *p
		other.safe, other.waits = map[int]string{}, map[int]string{}
		for _, n := range numbers {
			other.safe[n], other.waits[n] = p.safe[n], p.waits[n]
		}
		same(t, was, p, numbers) // the fuse and the age too
		for range 60 {
			step(t, r, d, p)
			same(t, d, p, numbers)
			step(t, r, was, &other)
			same(t, was, &other, numbers)
		}
		if t.Failed() {
			t.Fatalf("P3.3: seed %d", seed)
		}
	}
}

func TestAnswersAreNewMemory(t *testing.T) {
	d := newDisk(t, 256)
	d.Append(1, "abcdef")
	d.Append(2, "x")
	was, _ := d.Read(1)
	c := d.Copy()
	d.Cut(1, 2)
	d.Append(1, "XYZW")
	if was != "abcdef" {
		t.Errorf("R5: what was read became %q", was)
	}
	reads(t, "P3.3", c, 1, "abcdef", api.OK)
	c.Cut(1, 3)
	c.Append(1, "---")
	reads(t, "P3.3", d, 1, "abXYZW", api.OK)
	l := d.Segments()
	l[0] = 99
	l = append(l[:1], 98)
	if again := d.Segments(); !slices.Equal(again, []int{1, 2}) {
		t.Errorf("R5: Segments = %v, when an earlier answer is %v", again, l)
	}
}

func TestManySegments(t *testing.T) {
	d := newDisk(t, 1000)
	for n := range 1000 {
		want(t, "D2", d.Append(999-n, "x"), api.OK)
	}
	want(t, "D2", d.Append(0, "x"), api.ErrDiskFull)
	l := d.Segments()
	for n := range 1000 {
		if len(l) != 1000 || l[n] != n {
			t.Fatalf("D5: Segments are not 0 to 999, rising")
		}
	}
	if n := d.Crash(make([]int, 500)); n != 1000 || d.Used() != 0 || d.Segments() != nil {
		t.Errorf("D7: %d, used %d", n, d.Used())
	}
	for range 20000 {
		d.Append(0, "x")
		d.Cut(0, 0)
	}
	if d.Used() != 0 {
		t.Errorf("D8: used %d", d.Used())
	}
}
