package shardmap_test

import (
	"math"
	"math/rand"
	"slices"
	"testing"

	"rialto/api"
	"rialto/shardmap"
)

// edges are numbers beside which something turns.
var edges = []int{math.MinInt, -1, 0, 1, 2, 3, 4, 5, 7, 8, 9, 999999, 1000000, 1000001, math.MaxInt}

func account(n int) api.Key { return api.Key{Kind: api.KeyAccount, N: n} }

func lane(n int) api.Key { return api.Key{Kind: api.KeyLane, N: n} }

func place(key api.Key, group, version int) api.Place {
	return api.Place{Key: key, Group: group, Version: version}
}

func allKeys() []api.Key {
	var l []api.Key
	for n := 1; n <= 8; n++ {
		l = append(l, account(n))
	}
	for n := 1; n <= 3; n++ {
		l = append(l, lane(n))
	}
	return l
}

// The calls as the words say them: the keys are listed, and a map is gone along from its beginning.

func plainMayBe(l []api.Place) bool {
	rest := allKeys()
	for _, p := range l {
		at := slices.Index(rest, p.Key)
		if at < 0 || p.Group < 0 || p.Group > 3 || p.Version < 0 || p.Version > 1000000 {
			return false
		}
		rest = rest[at+1:]
	}
	return true
}

func plainHome(key api.Key, groups int) (int, api.Errno) {
	if !slices.Contains(allKeys(), key) || groups < 1 || groups > 4 {
		return 0, api.ErrArg
	}
	for key.N >= groups {
		key.N -= groups
	}
	return key.N, api.OK
}

func plainOwner(l []api.Place, key api.Key, groups int) (api.Place, api.Errno) {
	if !plainMayBe(l) {
		return api.Place{}, api.ErrMapForm
	}
	home, e := plainHome(key, groups)
	if e != api.OK {
		return api.Place{}, e
	}
	for _, p := range l {
		if p.Key == key {
			return p, api.OK
		}
	}
	return place(key, home, 0), api.OK
}

func plainLearn(l []api.Place, p api.Place) ([]api.Place, api.Errno) {
	if !plainMayBe(l) || !plainMayBe([]api.Place{p}) {
		return nil, api.ErrMapForm
	}
	var next []api.Place
	for _, key := range allKeys() {
		at := slices.IndexFunc(l, func(o api.Place) bool { return o.Key == key })
		if key == p.Key && (at < 0 || l[at].Version < p.Version) {
			next = append(next, p)
		} else if at >= 0 {
			next = append(next, l[at])
		}
	}
	return next, api.OK
}

// hold holds the calls on a map against the plain ones, and looks whether what was handed in is as it was.
func hold(t *testing.T, l []api.Place, p api.Place, groups int) {
	t.Helper()
	was := slices.Clone(l)
	got, e := shardmap.Owner(l, p.Key, groups)
	if want, pe := plainOwner(l, p.Key, groups); got != want || e != pe {
		t.Fatalf("P20.2: Owner(%v, %v, %d): %v, %d, want %v, %d", l, p.Key, groups, got, e, want, pe)
	}
	next, e := shardmap.Learn(l, p)
	if want, pe := plainLearn(l, p); !slices.Equal(next, want) || e != pe {
		t.Fatalf("P20.3: Learn(%v, %v): %v, %d, want %v, %d", l, p, next, e, want, pe)
	}
	if !slices.Equal(l, was) {
		t.Fatalf("R5: %v became %v", was, l)
	}
}

func TestExample(t *testing.T) {
	if home, e := shardmap.Home(account(5), 3); home != 2 || e != api.OK {
		t.Errorf("P20.1: %d, %d", home, e)
	}
	if p, e := shardmap.Owner(nil, account(5), 3); p != place(account(5), 2, 0) || e != api.OK {
		t.Errorf("P20.2: %v, %d", p, e)
	}
	one := place(account(5), 0, 1)
	l, e := shardmap.Learn(nil, one)
	if !slices.Equal(l, []api.Place{one}) || e != api.OK {
		t.Errorf("P20.3: %v, %d", l, e)
	}
	for _, late := range []api.Place{place(account(5), 2, 0), place(account(5), 1, 1), one} {
		l, e = shardmap.Learn(l, late)
		if !slices.Equal(l, []api.Place{one}) || e != api.OK {
			t.Errorf("P20.3: %v: %v, %d", late, l, e)
		}
	}
	if p, e := shardmap.Owner(l, account(5), 3); p != one || e != api.OK {
		t.Errorf("P20.2: %v, %d", p, e)
	}
}

func TestHome(t *testing.T) {
	for groups := 1; groups <= 4; groups++ {
		for _, key := range allKeys() {
			if home, e := shardmap.Home(key, groups); home != key.N%groups || e != api.OK {
				t.Errorf("P20.1: Home(%v, %d): %d, %d", key, groups, home, e)
			}
		}
	}
	for _, kind := range edges {
		for _, n := range edges {
			for _, groups := range edges {
				key := api.Key{Kind: kind, N: n}
				home, e := shardmap.Home(key, groups)
				if want, pe := plainHome(key, groups); home != want || e != pe {
					t.Fatalf("P20.1: Home(%v, %d): %d, %d, want %d, %d", key, groups, home, e, want, pe)
				}
			}
		}
	}
	for _, key := range []api.Key{{}, account(0), account(9), lane(0), lane(4), {Kind: 3, N: 1}, {Kind: 0, N: 1}} {
		if home, e := shardmap.Home(key, 2); home != 0 || e != api.ErrArg {
			t.Errorf("P20.1: %v: %d, %d", key, home, e)
		}
	}
}

// TestOwner: a place that is known is told as it was learned, wherever it is; but the key and the groups must be such as may be.
func TestOwner(t *testing.T) {
	l := []api.Place{place(account(2), 3, 7), place(account(8), 0, 1000000), place(lane(2), 1, 0)}
	for i, c := range []struct {
		key    api.Key
		groups int
		want   api.Place
		e      api.Errno
	}{
		{account(2), 4, place(account(2), 3, 7), api.OK},
		{account(2), 1, place(account(2), 3, 7), api.OK}, // a group that is beyond these
		{account(8), 3, place(account(8), 0, 1000000), api.OK},
		{lane(2), 4, place(lane(2), 1, 0), api.OK},
		{lane(3), 2, place(lane(3), 1, 0), api.OK},
		{account(1), 4, place(account(1), 1, 0), api.OK},
		{account(7), 4, place(account(7), 3, 0), api.OK},
		{account(2), 0, api.Place{}, api.ErrArg},
		{account(2), 5, api.Place{}, api.ErrArg},
		{account(9), 4, api.Place{}, api.ErrArg},
		{api.Key{}, 4, api.Place{}, api.ErrArg},
	} {
		if got, e := shardmap.Owner(l, c.key, c.groups); got != c.want || e != c.e {
			t.Errorf("P20.2: %d: %v, %d, want %v, %d", i, got, e, c.want, c.e)
		}
	}
	// that a map may not be is told first
	for _, strange := range strangers() {
		for _, key := range []api.Key{account(2), account(9)} {
			if got, e := shardmap.Owner(strange, key, 5); got != (api.Place{}) || e != api.ErrMapForm {
				t.Errorf("P20.2: %v: %v, %d", strange, got, e)
			}
		}
	}
}

// strangers are maps that may not be, each for one reason.
func strangers() [][]api.Place {
	a, b, c := place(account(2), 1, 1), place(account(3), 1, 1), place(lane(1), 1, 1)
	return [][]api.Place{
		{b, a}, {c, a}, {a, a}, {a, place(account(2), 0, 2)}, {a, b, c, c}, {a, c, b},
		{place(account(2), 4, 1)}, {place(account(2), -1, 1)}, {a, place(account(3), 4, 1)},
		{place(account(2), 1, -1)}, {place(account(2), 1, 1000001)}, {a, b, place(lane(1), 1, 1000001)},
		{{}}, {place(account(9), 1, 1)}, {a, place(account(9), 1, 1)}, {place(lane(4), 1, 1)}, {a, place(api.Key{Kind: 3, N: 1}, 1, 1)}, {place(api.Key{N: 1}, 1, 1), a},
		slices.Repeat([]api.Place{a}, 100000),
	}
}

func TestStrangers(t *testing.T) {
	for _, strange := range strangers() {
		for _, p := range []api.Place{place(account(2), 1, 5), place(lane(3), 0, 0), {}} {
			if next, e := shardmap.Learn(strange, p); len(next) != 0 || e != api.ErrMapForm {
				t.Errorf("P20.3: Learn(%v, %v): %v, %d", strange[:min(4, len(strange))], p, next, e)
			}
		}
		if len(strange) != 1 {
			continue
		}
		for _, l := range [][]api.Place{nil, {place(account(1), 0, 0), place(lane(2), 0, 0)}} {
			if next, e := shardmap.Learn(l, strange[0]); len(next) != 0 || e != api.ErrMapForm {
				t.Errorf("P20.3: Learn(%v, %v): %v, %d", l, strange[0], next, e)
			}
		}
	}
}

// TestEdges brings each field of a place to every edge, alone, first, last and between others.
func TestEdges(t *testing.T) {
	maps := [][]api.Place{nil, {}, {place(account(4), 2, 3)}, {place(account(1), 2, 3), place(account(4), 0, 5), place(lane(1), 3, 0), place(lane(3), 0, 1000000)}}
	for field := range 4 {
		for _, n := range edges {
			for _, m := range edges {
				for _, p := range []api.Place{place(account(4), 2, 4), place(lane(1), 1, 1)} {
					*[]*int{&p.Key.Kind, &p.Key.N, &p.Group, &p.Version}[field] = n
					for _, l := range maps {
						hold(t, l, p, m)
					}
					for _, l := range [][]api.Place{{p}, {place(account(1), 1, 1), p}, {p, place(lane(2), 1, 1)}, {place(account(3), 1, 1), p, place(lane(3), 1, 1)}} {
						hold(t, l, place(account(4), 3, 9), m)
						hold(t, l, p, m)
					}
				}
			}
		}
	}
}

// TestPlaces: each key comes in where keys rise, whatever is there.
func TestPlaces(t *testing.T) {
	for have := range 1 << 11 {
		var l []api.Place
		for i, key := range allKeys() {
			if have>>i&1 == 1 {
				l = append(l, place(key, i%4, 5))
			}
		}
		for i, key := range allKeys() {
			for version := 4; version <= 6; version++ {
				hold(t, l, place(key, (i+1)%4, version), 1+i%4)
			}
		}
	}
}

// TestSmall goes by all maps of up to three places of few keys and versions, most of which may not be.
func TestSmall(t *testing.T) {
	var of []api.Place
	for _, key := range []api.Key{account(1), account(8), lane(1), lane(4)} {
		of = append(of, place(key, 0, 1), place(key, 3, 2))
	}
	lists := [][]api.Place{nil}
	for range 3 {
		for _, l := range lists {
			for _, p := range of {
				lists = append(lists, append(slices.Clip(l), p))
			}
		}
	}
	for _, l := range lists {
		for _, p := range of {
			hold(t, l, p, 3)
		}
	}
}

// learned is a map in which all of a list were learned, one behind the other.
func learned(t *testing.T, l []api.Place) []api.Place {
	t.Helper()
	var all []api.Place
	for _, p := range l {
		next, e := shardmap.Learn(all, p)
		if e != api.OK {
			t.Fatalf("P20.3: Learn(%v, %v): %d", all, p, e)
		}
		all = next
	}
	return all
}

// TestOrder: in whichever order places are learned, some of them twice, of each key the one with the greatest Version is known.
func TestOrder(t *testing.T) {
	for seed := range int64(300) {
		r := rand.New(rand.NewSource(seed))
		var l, best []api.Place
		for _, key := range allKeys() {
			versions := r.Perm(9)[:r.Intn(6)]
			for _, v := range versions {
				l = append(l, place(key, r.Intn(4), v))
			}
			if len(versions) > 0 {
				best = append(best, slices.MaxFunc(l[len(l)-len(versions):], func(a, b api.Place) int { return a.Version - b.Version }))
			}
		}
		for range 10 {
			r.Shuffle(len(l), func(i, j int) { l[i], l[j] = l[j], l[i] })
			twice := append(slices.Clone(l), l[:r.Intn(len(l)+1)]...)
			if got := learned(t, twice); !slices.Equal(got, best) {
				t.Fatalf("P20.4: of %v: %v, want %v", twice, got, best)
			}
		}
	}
}

// TestMemory: what is answered shares nothing with what was handed in, its spare room too.
func TestMemory(t *testing.T) {
	odd := place(account(-7), -7, -7)
	for _, p := range []api.Place{place(account(1), 1, 1), place(account(4), 1, 1), place(account(4), 1, 9), place(account(5), 0, 0), place(lane(3), 3, 3), {}} {
		for _, n := range []int{0, 1, 3} {
			l := append(make([]api.Place, 0, 9), place(account(2), 0, 1), place(account(4), 2, 3), place(lane(1), 1, 1))[:n]
			was := slices.Clone(l[:9])
			next, _ := shardmap.Learn(l, p)
			for i := range next[:cap(next)] {
				next[:cap(next)][i] = odd
			}
			if !slices.Equal(l[:9], was) {
				t.Errorf("R5: Learn(%v, %v) shares memory: %v", was[:n], p, l[:9])
			}
		}
	}
}
