package timer_test

import (
	"math"
	"math/rand"
	"slices"
	"testing"

	"rialto/api"
	"rialto/timer"
)

// plain is a wheel as the chapter's words say it: of each key that has a timer, how many ticks it is ahead.
type plain struct {
	keys int
	left map[int]int
	now  int
}

func newPlain(keys int) *plain { return &plain{keys: keys, left: map[int]int{}} }

func (p *plain) has(key int) bool { return 0 <= key && key <= p.keys-1 }

func (p *plain) Set(key, after int) api.Errno {
	if !p.has(key) || after < 1 || after > 1000 {
		return api.ErrArg
	}
	p.left[key] = after
	return api.OK
}

func (p *plain) Stop(key int) api.Errno {
	if !p.has(key) {
		return api.ErrArg
	}
	delete(p.left, key)
	return api.OK
}

func (p *plain) Tick() []int {
	p.now++
	var due []int
	for key := 0; key < p.keys; key++ {
		left, ok := p.left[key]
		switch {
		case !ok:
		case left == 1:
			due = append(due, key)
			delete(p.left, key)
		default:
			p.left[key] = left - 1
		}
	}
	return due
}

func newWheel(t *testing.T, keys int) *timer.Wheel {
	t.Helper()
	w, e := timer.New(keys)
	if w == nil || e != api.OK {
		t.Fatalf("T1: New(%d): %v, %d", keys, w, e)
	}
	return w
}

func want(t *testing.T, promise string, is, want api.Errno) {
	t.Helper()
	if is != want {
		t.Errorf("%s: answered %d, want %d", promise, is, want)
	}
}

func ticks(t *testing.T, promise string, w *timer.Wheel, due ...int) {
	t.Helper()
	if l := w.Tick(); !slices.Equal(l, due) {
		t.Errorf("%s: Tick = %v, want %v", promise, l, due)
	}
}

func left(t *testing.T, promise string, w *timer.Wheel, key, n int, ok bool) {
	t.Helper()
	if is, isOk := w.Left(key); is != n || isOk != ok {
		t.Errorf("%s: Left(%d) = %d, %v, want %d, %v", promise, key, is, isOk, n, ok)
	}
}

// same holds all that a wheel tells against the plain one.
func same(t *testing.T, w *timer.Wheel, p *plain) {
	t.Helper()
	if w.Len() != len(p.left) || w.Now() != p.now {
		t.Errorf("T5: Len %d, Now %d, want %d, %d", w.Len(), w.Now(), len(p.left), p.now)
	}
	for key := -2; key < p.keys+2; key++ {
		n, ok := p.left[key]
		left(t, "T3", w, key, n, ok)
	}
}

var strangeKeys = []int{math.MinInt, math.MinInt32, -1001, -100, -1}
var strangeTicks = []int{math.MinInt, -1000, -1, 0, 1001, 1002, 2000, math.MaxInt32, math.MaxInt}

func anyKey(r *rand.Rand, keys int) int {
	if r.Intn(15) == 0 {
		return append([]int{keys, keys + 1, 100, 1000, math.MaxInt}, strangeKeys...)[r.Intn(10)]
	}
	return r.Intn(keys)
}

func anyTicks(r *rand.Rand) int {
	switch r.Intn(10) {
	case 0:
		return strangeTicks[r.Intn(len(strangeTicks))]
	case 1:
		return 990 + r.Intn(11)
	case 2:
		return 1 + r.Intn(1000)
	}
	return 1 + r.Intn(12)
}

// step does one act on both, and holds what they answer against each other.
func step(t *testing.T, r *rand.Rand, w *timer.Wheel, p *plain) {
	t.Helper()
	key := anyKey(r, p.keys)
	switch r.Intn(10) {
	case 0, 1, 2, 3:
		after := anyTicks(r)
		want(t, "T2: Set", w.Set(key, after), p.Set(key, after))
	case 4:
		want(t, "T2: Stop", w.Stop(key), p.Stop(key))
	case 5:
		for range r.Intn(30) * r.Intn(30) {
			ticks(t, "T4", w, p.Tick()...)
		}
	default:
		ticks(t, "T4", w, p.Tick()...)
	}
}

func TestAsTheWordsSay(t *testing.T) {
	for seed := range 120 {
		r := rand.New(rand.NewSource(int64(seed)))
		keys := 1 + r.Intn(12)
		if seed%10 == 0 {
			keys = 100
		}
		w, p := newWheel(t, keys), newPlain(keys)
		same(t, w, p)
		for range 200 {
			step(t, r, w, p)
			same(t, w, p)
			if t.Failed() {
				t.Fatalf("seed %d", seed)
			}
		}
	}
}

func TestNew(t *testing.T) {
	for _, keys := range []int{1, 2, 99, 100} {
		w := newWheel(t, keys)
		if w.Len() != 0 || w.Now() != 0 {
			t.Errorf("T1: New(%d): Len %d, Now %d", keys, w.Len(), w.Now())
		}
		left(t, "T1: no timers", w, 0, 0, false)
		want(t, "T1: the last key", w.Set(keys-1, 1), api.OK)
		want(t, "T1: no more keys", w.Set(keys, 1), api.ErrArg)
		ticks(t, "T1", w, keys-1)
	}
	for _, keys := range []int{math.MinInt, -100, -1, 0, 101, 102, 1000, math.MaxInt} {
		if w, e := timer.New(keys); w != nil || e != api.ErrArg {
			t.Errorf("T1: New(%d): %v, %d", keys, w, e)
		}
	}
}

func TestExample(t *testing.T) {
	w := newWheel(t, 3)
	want(t, "T2", w.Set(2, 1), api.OK)
	want(t, "T2", w.Set(0, 2), api.OK)
	want(t, "T2", w.Set(1, 1), api.OK)
	ticks(t, "T4", w, 1, 2)
	left(t, "T3", w, 0, 1, true)
	want(t, "T2", w.Set(0, 3), api.OK)
	ticks(t, "P6.1", w)
	ticks(t, "P6.1", w)
	ticks(t, "P6.1", w, 0)
	want(t, "T2", w.Set(3, 1), api.ErrArg)
	want(t, "T2", w.Set(0, 0), api.ErrArg)
	want(t, "T2", w.Set(0, 1001), api.ErrArg)
}

func TestRefusedCallsChangeNothing(t *testing.T) {
	w, p := newWheel(t, 3), newPlain(3)
	w.Set(1, 5)
	p.Set(1, 5)
	for _, key := range append([]int{3, 4, 99, 100, 1000, math.MaxInt32, math.MaxInt}, strangeKeys...) {
		want(t, "T2: Set of no key", w.Set(key, 5), api.ErrArg)
		want(t, "T2: Set of no key", w.Set(key, 0), api.ErrArg)
		want(t, "T2: Stop of no key", w.Stop(key), api.ErrArg)
		left(t, "T3", w, key, 0, false)
		same(t, w, p)
	}
	for _, after := range strangeTicks {
		want(t, "T2: Set so far ahead", w.Set(0, after), api.ErrArg)
		want(t, "T2: Set so far ahead", w.Set(1, after), api.ErrArg)
		same(t, w, p)
	}
	for range 10 {
		ticks(t, "R3", w, p.Tick()...)
	}
}

func TestSetAgainAndStop(t *testing.T) {
	w := newWheel(t, 4)
	w.Set(0, 1)
	w.Set(0, 3) // later
	w.Set(1, 3)
	w.Set(1, 1) // sooner
	w.Set(2, 2)
	w.Set(2, 2) // the same
	w.Set(3, 1)
	if w.Len() != 4 {
		t.Errorf("T5: Len = %d, where each key has one timer", w.Len())
	}
	want(t, "T2", w.Stop(3), api.OK)
	left(t, "T3: stopped", w, 3, 0, false)
	want(t, "T2: it has none", w.Stop(3), api.OK)
	if w.Len() != 3 {
		t.Errorf("T5: Len = %d behind a Stop", w.Len())
	}
	ticks(t, "T2", w, 1)
	ticks(t, "T2", w, 2)
	ticks(t, "T2", w, 0)
	for range 1100 {
		ticks(t, "P6.1: at no other one", w)
	}
	if w.Len() != 0 || w.Now() != 1103 {
		t.Errorf("T5: Len %d, Now %d", w.Len(), w.Now())
	}
	want(t, "T2", w.Set(3, 1), api.OK)
	ticks(t, "T2: set again behind a Stop", w, 3)
}

// TestInTime sets timers of all lengths, behind so many ticks that the wheel has gone round in between.
func TestInTime(t *testing.T) {
	for _, first := range []int{0, 1, 7, 500, 998, 999, 1000, 1001, 2500} {
		for low := 1; low <= 1000; low += 100 {
			w := newWheel(t, 100)
			for range first {
				ticks(t, "P6.1: none was set", w)
			}
			for key := range 100 {
				want(t, "T2", w.Set(key, low+key), api.OK)
				left(t, "T3", w, key, low+key, true)
			}
			for tick := 1; tick <= 2100; tick++ {
				if key := tick - low; key >= 0 && key < 100 {
					left(t, "P6.1: the tick ahead", w, key, 1, true)
					ticks(t, "P6.1", w, key)
					left(t, "T4: there no more", w, key, 0, false)
				} else {
					ticks(t, "P6.1: at no other tick", w)
				}
			}
			if w.Now() != first+2100 || w.Len() != 0 || t.Failed() {
				t.Fatalf("P6.1: behind %d ticks, from %d on: Now %d, Len %d", first, low, w.Now(), w.Len())
			}
		}
	}
}

func TestSetWhenDue(t *testing.T) {
	w := newWheel(t, 1)
	for _, after := range []int{1, 1, 2, 1000, 999, 1000, 1000, 1} {
		want(t, "T2", w.Set(0, after), api.OK)
		for range after - 1 {
			ticks(t, "P6.1", w)
		}
		ticks(t, "P6.1", w, 0)
	}
}

func TestAllAtOnceAreRising(t *testing.T) {
	var all []int
	for key := range 100 {
		all = append(all, key)
	}
	r := rand.New(rand.NewSource(1))
	for range 20 {
		w := newWheel(t, 100)
		for _, key := range r.Perm(100) {
			want(t, "T2", w.Set(key, 3), api.OK)
		}
		if w.Len() != 100 {
			t.Errorf("T5: Len = %d", w.Len())
		}
		ticks(t, "T4", w)
		ticks(t, "T4", w)
		ticks(t, "T4", w, all...)
	}
}

func TestApart(t *testing.T) {
	for seed := range 50 {
		r := rand.New(rand.NewSource(int64(seed)))
		busy, calm := newWheel(t, 5), newWheel(t, 5)
		for range 150 {
			if after := anyTicks(r); r.Intn(4) == 0 {
				key := 1 + r.Intn(4)
				want(t, "T2", busy.Set(key, after), calm.Set(key, after))
			}
			for range r.Intn(4) { // calls of key 0 alone
				if r.Intn(3) == 0 {
					busy.Stop(0)
				} else {
					busy.Set(0, anyTicks(r))
				}
			}
			for key := 1; key < 5; key++ {
				n, ok := calm.Left(key)
				left(t, "P6.2", busy, key, n, ok)
			}
			due := slices.DeleteFunc(busy.Tick(), func(key int) bool { return key == 0 })
			if other := calm.Tick(); !slices.Equal(due, other) {
				t.Errorf("P6.2: due are %v, want %v", due, other)
			}
			if t.Failed() {
				t.Fatalf("seed %d", seed)
			}
		}
	}
}

func TestOrderOfCalls(t *testing.T) {
	for seed := range 50 {
		r := rand.New(rand.NewSource(int64(seed)))
		one, other := newWheel(t, 8), newWheel(t, 8)
		for range 60 {
			after := map[int]int{}
			for _, key := range r.Perm(8)[:r.Intn(9)] {
				after[key] = 1 + r.Intn(6)
			}
			for _, w := range []*timer.Wheel{one, other} {
				for _, key := range r.Perm(8) {
					if n, ok := after[key]; ok {
						want(t, "T2", w.Set(key, n), api.OK)
					}
				}
			}
			for key := range 8 {
				n, ok := other.Left(key)
				left(t, "P6.3", one, key, n, ok)
			}
			ticks(t, "P6.3", one, other.Tick()...)
		}
		if t.Failed() {
			t.Fatalf("seed %d", seed)
		}
	}
}

func TestAnswersAreNewMemory(t *testing.T) {
	w := newWheel(t, 4)
	for key := range 4 {
		w.Set(key, 1)
	}
	first := w.Tick()
	for key := range 4 {
		w.Set(key, 1000) // into the slot that the first ones were in
	}
	for i := range first {
		first[i] = 99
	}
	first = append(first, 98)
	for key := range 4 {
		left(t, "R5", w, key, 1000, true)
	}
	for range 999 {
		ticks(t, "R5", w)
	}
	ticks(t, "R5", w, 0, 1, 2, 3)
	if !slices.Equal(first, []int{99, 99, 99, 99, 98}) {
		t.Errorf("R5: an earlier answer became %v", first)
	}
	one, other := newWheel(t, 2), newWheel(t, 2)
	one.Set(0, 1)
	ticks(t, "R6: another wheel", other)
	ticks(t, "R6", one, 0)
}
