package locks_test

import (
	"math"
	"math/rand"
	"slices"
	"testing"

	"rialto/api"
	"rialto/locks"
)

// holdTable holds the calls that ask of a table alone against the plain ones, and looks for what P16.5 says of the oldest one.
func holdTable(t *testing.T, tab api.Table) {
	t.Helper()
	was := clone(tab)
	if e := locks.Check(tab); e != plainCheck(tab) {
		t.Fatalf("P16.1: Check(%s): %d, want %d", brief(tab), e, plainCheck(tab))
	}
	wounds := locks.Wounds(tab)
	if want := plainWounds(tab); !slices.Equal(wounds, want) {
		t.Fatalf("P16.4: Wounds(%s): %v, want %v", brief(tab), wounds, want)
	}
	if !same(tab, was) {
		t.Fatalf("R5: %s became %s", brief(was), brief(tab))
	}
	if first := oldestOf(tab); slices.ContainsFunc(wounds, func(h api.Hold) bool { return h.Txn == first }) {
		t.Fatalf("P16.5: %v is the oldest one of %s, and is wounded", first, brief(tab))
	}
}

// oldestOf is the oldest one of all names of a table.
func oldestOf(tab api.Table) api.Txn {
	var first api.Txn
	for _, h := range slices.Concat(tab.Held, tab.Wait) {
		if first == (api.Txn{}) || plainOlder(h.Txn, first) {
			first = h.Txn
		}
	}
	return first
}

// holdCalls holds Ask and Free against the plain ones.
func holdCalls(t *testing.T, tab api.Table, key api.Key, txn api.Txn) {
	t.Helper()
	was := clone(tab)
	next, got, e := locks.Ask(tab, key, txn)
	if pn, pg, pe := plainAsk(tab, key, txn); !same(next, pn) || got != pg || e != pe {
		t.Fatalf("P16.2: Ask(%s, %v, %v): %s, %v, %d, want %s, %v, %d", brief(tab), key, txn, brief(next), got, e, brief(pn), pg, pe)
	}
	if e == api.OK && !plainMayBe(next) {
		t.Fatalf("P16.5: Ask(%s, %v, %v): %s", brief(tab), key, txn, brief(next))
	}
	next, who, e := locks.Free(tab, key, txn)
	if pn, pw, pe := plainFree(tab, key, txn); !same(next, pn) || who != pw || e != pe {
		t.Fatalf("P16.3: Free(%s, %v, %v): %s, %v, %d, want %s, %v, %d", brief(tab), key, txn, brief(next), who, e, brief(pn), pw, pe)
	}
	if e == api.OK && !plainMayBe(next) {
		t.Fatalf("P16.5: Free(%s, %v, %v): %s", brief(tab), key, txn, brief(next))
	}
	if !same(tab, was) {
		t.Fatalf("R5: %s became %s", brief(was), brief(tab))
	}
}

// asked is a table in which all of a list were asked for, one behind the other.
func asked(t *testing.T, l ...api.Hold) api.Table {
	t.Helper()
	var tab api.Table
	for _, h := range l {
		next, _, e := locks.Ask(tab, h.Key, h.Txn)
		if e != api.OK {
			t.Fatalf("P16.2: %v: %d", h, e)
		}
		tab = next
	}
	return tab
}

func TestExample(t *testing.T) {
	k := account(1)
	tab, got, e := locks.Ask(api.Table{}, k, name(2, 5))
	if !got || e != api.OK || !same(tab, api.Table{Held: []api.Hold{hold(k, name(2, 5))}}) {
		t.Errorf("P16.2: %v, %v, %d", tab, got, e)
	}
	tab, got, e = locks.Ask(tab, k, name(1, 5))
	if got || e != api.OK {
		t.Errorf("P16.2: %v, %v, %d", tab, got, e)
	}
	if w := locks.Wounds(tab); !slices.Equal(w, []api.Hold{hold(k, name(2, 5))}) {
		t.Errorf("P16.4: %v", w)
	}
	tab, who, e := locks.Free(tab, k, name(2, 5))
	if who != name(1, 5) || e != api.OK || !same(tab, api.Table{Held: []api.Hold{hold(k, name(1, 5))}}) {
		t.Errorf("P16.3: %v, %v, %d", tab, who, e)
	}
}

// edges are numbers beside which something turns.
var edges = []int{math.MinInt, -1, 0, 1, 2, 3, 4, 5, 6, 7, 8, 9, 99999, 100000, 100001, math.MaxInt}

func TestOlder(t *testing.T) {
	for i, c := range []struct {
		a, b api.Txn
		want bool
	}{
		{name(1, 5), name(2, 5), true},
		{name(2, 5), name(1, 5), false},
		{name(2, 5), name(2, 5), false},
		{name(6, 4), name(1, 5), true},
		{name(1, 5), name(6, 4), false},
		{name(1, 5), name(1, 6), true},
	} {
		if locks.Older(c.a, c.b) != c.want {
			t.Errorf("P16.1: %d: Older(%v, %v) is not %v", i, c.a, c.b, c.want)
		}
	}
	for _, a := range edges {
		for _, b := range edges {
			for _, c := range edges {
				for _, d := range edges {
					if x, y := name(a, b), name(c, d); locks.Older(x, y) != plainOlder(x, y) {
						t.Fatalf("P16.1: Older(%v, %v): %v", x, y, locks.Older(x, y))
					}
				}
			}
		}
	}
}

// TestCheck goes by tables that may be and that may not, the least that each word asks for.
func TestCheck(t *testing.T) {
	k, l := account(1), lane(1)
	a, b := name(1, 1), name(2, 1)
	for i, c := range []struct {
		tab api.Table
		e   api.Errno
	}{
		{api.Table{}, api.OK},
		{api.Table{Held: []api.Hold{}, Wait: []api.Hold{}}, api.OK},
		{api.Table{Held: []api.Hold{hold(k, a)}}, api.OK},
		{api.Table{Held: []api.Hold{hold(k, a), hold(l, a)}}, api.OK}, // one of each kind, of the same number
		{api.Table{Held: []api.Hold{hold(k, a)}, Wait: []api.Hold{hold(k, b)}}, api.OK},
		{api.Table{Held: []api.Hold{hold(k, a), hold(l, b)}, Wait: []api.Hold{hold(l, a), hold(k, b)}}, api.OK}, // both wait for the other one
		{api.Table{Held: []api.Hold{hold(k, a), hold(l, a)}, Wait: []api.Hold{hold(l, b), hold(k, b)}}, api.OK}, // one waits for both
		{api.Table{Held: []api.Hold{{}}}, api.ErrLocksForm},
		{api.Table{Held: []api.Hold{hold(k, a)}, Wait: []api.Hold{{}}}, api.ErrLocksForm},
		{api.Table{Held: []api.Hold{hold(k, a), hold(k, b)}}, api.ErrLocksForm},
		{api.Table{Held: []api.Hold{hold(k, a), hold(k, a)}}, api.ErrLocksForm},
		{api.Table{Held: []api.Hold{hold(k, a), hold(l, a), hold(k, b)}}, api.ErrLocksForm},
		{api.Table{Wait: []api.Hold{hold(k, a)}}, api.ErrLocksForm},
		{api.Table{Held: []api.Hold{hold(l, b)}, Wait: []api.Hold{hold(k, a)}}, api.ErrLocksForm},
		{api.Table{Held: []api.Hold{hold(k, a)}, Wait: []api.Hold{hold(k, a)}}, api.ErrLocksForm},
		{api.Table{Held: []api.Hold{hold(k, a)}, Wait: []api.Hold{hold(k, b), hold(k, b)}}, api.ErrLocksForm},
		{api.Table{Held: []api.Hold{hold(k, a)}, Wait: []api.Hold{hold(k, b), hold(k, name(3, 1)), hold(k, b)}}, api.ErrLocksForm},
	} {
		holdTable(t, c.tab)
		if e := locks.Check(c.tab); e != c.e {
			t.Errorf("P16.1: %d: Check(%v): %d, want %d", i, c.tab, e, c.e)
		}
	}
}

// line is a table in which so many wait for a key, the youngest first.
func line(key api.Key, waits int) api.Table {
	tab := api.Table{Held: []api.Hold{hold(key, name(6, 50))}}
	for i := range waits {
		tab.Wait = append(tab.Wait, hold(key, name(1, 99-i)))
	}
	return tab
}

func TestLine(t *testing.T) {
	for waits := range 8 {
		tab := line(account(8), waits)
		holdTable(t, tab)
		holdCalls(t, tab, account(8), name(2, 1))
		want := api.OK
		if waits > 4 {
			want = api.ErrLocksForm
		}
		if e := locks.Check(tab); e != want {
			t.Errorf("P16.1: %d wait: %d, want %d", waits, e, want)
		}
	}
	tab := line(account(8), 4)
	if next, got, e := locks.Ask(tab, account(8), name(2, 1)); got || e != api.ErrLocksFull || !same(next, api.Table{}) {
		t.Errorf("P16.2: %v, %v, %d", next, got, e)
	}
	// who holds it, or waits, is told so even then; and of other keys there is room
	if next, got, e := locks.Ask(tab, account(8), name(6, 50)); !got || e != api.OK || !same(next, tab) {
		t.Errorf("P16.2: %v, %v, %d", next, got, e)
	}
	if next, got, e := locks.Ask(tab, account(8), name(1, 96)); got || e != api.OK || !same(next, tab) {
		t.Errorf("P16.2: %v, %v, %d", next, got, e)
	}
	if next, got, e := locks.Ask(tab, account(7), name(2, 1)); !got || e != api.OK || !slices.Equal(next.Held, append(slices.Clone(tab.Held), hold(account(7), name(2, 1)))) {
		t.Errorf("P16.2: %v, %v, %d", next, got, e)
	}
}

// full is a table in which each key is held and as many as may be wait for it, with no name twice.
func full() api.Table {
	var tab api.Table
	seq := 0
	for _, key := range keys() {
		for i := range 5 {
			seq++
			h := hold(key, name(1+seq%6, 100-seq))
			if i == 0 {
				tab.Held = append(tab.Held, h)
			} else {
				tab.Wait = append(tab.Wait, h)
			}
		}
	}
	return tab
}

func keys() []api.Key {
	var l []api.Key
	for n := 1; n <= 8; n++ {
		l = append(l, account(n))
	}
	for n := 1; n <= 3; n++ {
		l = append(l, lane(n))
	}
	return l
}

// TestFull: nothing goes into the fullest table that may be; one that has more than 200 may not be.
func TestFull(t *testing.T) {
	tab := full()
	holdTable(t, tab)
	if e := locks.Check(tab); e != api.OK || len(tab.Held) != 11 || len(tab.Wait) != 44 {
		t.Fatalf("P16.1: %s: %d", brief(tab), e)
	}
	for _, key := range keys() {
		if _, _, e := locks.Ask(tab, key, name(1, 1)); e != api.ErrLocksFull {
			t.Errorf("P16.2: %v: %d", key, e)
		}
		for _, h := range slices.Concat(tab.Held, tab.Wait) {
			holdCalls(t, tab, key, h.Txn)
		}
	}
	for _, n := range []int{199, 200, 201, 5000} {
		many := api.Table{Held: slices.Repeat([]api.Hold{hold(account(1), name(1, 1))}, n)}
		holdTable(t, many)
		holdTable(t, api.Table{Held: many.Held[:1], Wait: many.Held[1:]})
		if _, _, e := locks.Ask(many, account(1), name(1, 1)); e != api.ErrLocksForm {
			t.Errorf("P16.2: of %d: %d", n, e)
		}
	}
}

// TestEdges brings the fields of what is held, of what waits and of what is asked to every edge.
func TestEdges(t *testing.T) {
	tab := api.Table{Held: []api.Hold{hold(account(1), name(1, 1)), hold(lane(1), name(3, 1))}, Wait: []api.Hold{hold(account(1), name(2, 1))}}
	for field := range 4 {
		for _, n := range edges {
			for _, one := range []api.Hold{hold(account(1), name(1, 1)), hold(lane(1), name(2, 2)), hold(account(1), name(2, 1))} {
				*[]*int{&one.Key.Kind, &one.Key.N, &one.Txn.Client, &one.Txn.Seq}[field] = n
				holdCalls(t, tab, one.Key, one.Txn)
				holdCalls(t, api.Table{}, one.Key, one.Txn)
				legal := plainKey(one.Key) && plainName(one.Txn)
				next, _, e := locks.Ask(tab, one.Key, one.Txn)
				back, _, f := locks.Free(tab, one.Key, one.Txn)
				if !legal && (e != api.ErrArg || f != api.ErrArg || !same(next, api.Table{}) || !same(back, api.Table{})) {
					t.Errorf("P16.2, P16.3: %v: %v, %d; %v, %d", one, next, e, back, f)
				}
				for _, strange := range []api.Table{{Held: []api.Hold{one}}, {Held: append(slices.Clone(tab.Held), one)}, {Held: tab.Held, Wait: []api.Hold{one}}} {
					holdTable(t, strange)
					holdCalls(t, strange, one.Key, one.Txn)
					holdCalls(t, strange, account(2), name(4, 4))
					if e := locks.Check(strange); !legal && e != api.ErrLocksForm {
						t.Errorf("P16.1: %v: %d", strange, e)
					}
				}
			}
		}
	}
}

// TestOrder: of a table that may not be that is told first, of a key that is none ahead of a full line.
func TestOrder(t *testing.T) {
	twice := api.Table{Held: []api.Hold{hold(account(1), name(1, 1)), hold(account(1), name(1, 1))}}
	for _, key := range []api.Key{account(1), account(9), {}} {
		for _, txn := range []api.Txn{name(1, 1), name(7, 1), {}} {
			if next, got, e := locks.Ask(twice, key, txn); got || e != api.ErrLocksForm || !same(next, api.Table{}) {
				t.Errorf("P16.2: %v, %v, %d", next, got, e)
			}
			if next, who, e := locks.Free(twice, key, txn); who != (api.Txn{}) || e != api.ErrLocksForm || !same(next, api.Table{}) {
				t.Errorf("P16.3: %v, %v, %d", next, who, e)
			}
		}
	}
	if w := locks.Wounds(api.Table{Held: append(twice.Held, hold(lane(1), name(2, 2))), Wait: []api.Hold{hold(lane(1), name(1, 1))}}); len(w) != 0 {
		t.Errorf("P16.4: %v", w)
	}
	if _, _, e := locks.Ask(line(account(8), 4), account(8), name(2, 0)); e != api.ErrArg {
		t.Errorf("P16.2: %d", e)
	}
}

func TestFree(t *testing.T) {
	k, l := account(3), lane(3)
	tab := asked(t, hold(k, name(2, 7)), hold(l, name(3, 7)), hold(k, name(5, 9)), hold(k, name(4, 8)), hold(l, name(1, 1)), hold(k, name(6, 8)))
	for i, c := range []struct {
		key  api.Key
		txn  api.Txn
		who  api.Txn
		held []api.Hold
		wait []api.Hold
	}{
		{k, name(2, 7), name(4, 8), []api.Hold{hold(l, name(3, 7)), hold(k, name(4, 8))}, []api.Hold{hold(k, name(5, 9)), hold(l, name(1, 1)), hold(k, name(6, 8))}},
		{l, name(3, 7), name(1, 1), []api.Hold{hold(k, name(2, 7)), hold(l, name(1, 1))}, []api.Hold{hold(k, name(5, 9)), hold(k, name(4, 8)), hold(k, name(6, 8))}},
		{k, name(4, 8), api.Txn{}, tab.Held, []api.Hold{hold(k, name(5, 9)), hold(l, name(1, 1)), hold(k, name(6, 8))}},
		{l, name(1, 1), api.Txn{}, tab.Held, []api.Hold{hold(k, name(5, 9)), hold(k, name(4, 8)), hold(k, name(6, 8))}},
		{l, name(2, 7), api.Txn{}, tab.Held, tab.Wait}, // neither holds it nor waits
		{lane(1), name(2, 7), api.Txn{}, tab.Held, tab.Wait},
	} {
		next, who, e := locks.Free(tab, c.key, c.txn)
		if e != api.OK || who != c.who || !same(next, api.Table{Held: c.held, Wait: c.wait}) {
			t.Errorf("P16.3: %d: %v, %v, %d", i, next, who, e)
		}
	}
	if next, who, e := locks.Free(asked(t, hold(k, name(1, 1))), k, name(1, 1)); e != api.OK || who != (api.Txn{}) || !same(next, api.Table{}) {
		t.Errorf("P16.3: %v, %v, %d", next, who, e)
	}
}

func TestWounds(t *testing.T) {
	k, l, m := account(3), lane(3), account(8)
	tab := asked(t,
		hold(l, name(3, 7)), hold(k, name(2, 7)), hold(m, name(4, 7)), hold(account(1), name(6, 9)), // the last is waited for by none
		hold(k, name(3, 7)), hold(k, name(1, 8)), // younger ones alone
		hold(m, name(5, 7)), hold(m, name(3, 7)), hold(m, name(6, 6)), // two of them are older
		hold(l, name(2, 7)))
	if w := locks.Wounds(tab); !slices.Equal(w, []api.Hold{hold(l, name(3, 7)), hold(m, name(4, 7))}) {
		t.Errorf("P16.4: %v", w)
	}
	if w := locks.Wounds(api.Table{}); len(w) != 0 {
		t.Errorf("P16.4: %v", w)
	}
	holdTable(t, tab)
}

// each goes by all lists of holds up to a length.
func each(of []api.Hold, most int, do func(l []api.Hold)) {
	var grow func(l []api.Hold)
	grow = func(l []api.Hold) {
		do(l)
		for _, h := range of {
			if len(l) < most {
				grow(append(slices.Clip(l), h))
			}
		}
	}
	grow(nil)
}

// TestSmall goes by all tables of two keys and three names that hold at most two and in which at most three wait.
func TestSmall(t *testing.T) {
	var of []api.Hold
	for _, key := range []api.Key{account(2), lane(2)} {
		for _, txn := range []api.Txn{name(1, 2), name(2, 2), name(2, 1)} {
			of = append(of, hold(key, txn))
		}
	}
	legal := 0
	each(of, 2, func(held []api.Hold) {
		each(of, 3, func(wait []api.Hold) {
			tab := api.Table{Held: held, Wait: wait}
			holdTable(t, tab)
			if plainMayBe(tab) {
				legal++
			}
			for _, h := range of {
				holdCalls(t, tab, h.Key, h.Txn)
			}
			holdCalls(t, tab, account(1), name(1, 2))
		})
	})
	if legal < 100 {
		t.Errorf("only %d may be", legal)
	}
}

// TestRuns asks and frees at random: a table stays such as may be.
func TestRuns(t *testing.T) {
	times := map[api.Errno]int{}
	wounds := 0
	for seed := range int64(120) {
		r := rand.New(rand.NewSource(seed))
		kinds, seqs := 1+r.Intn(11), 1+r.Intn(5)
		var tab api.Table
		for range 150 {
			key, txn := keys()[r.Intn(kinds)], name(r.Intn(7), 1+r.Intn(seqs))
			holdTable(t, tab)
			holdCalls(t, tab, key, txn)
			wounds += len(locks.Wounds(tab))
			next, _, e := locks.Ask(tab, key, txn)
			if r.Intn(4) == 0 {
				next, _, e = locks.Free(tab, key, txn)
			}
			times[e]++
			if e == api.OK {
				tab = next
			}
		}
	}
	if times[api.ErrLocksFull] < 100 || times[api.ErrArg] < 100 || wounds < 1000 {
		t.Errorf("too few of them tell something: %v, %d wounds", times, wounds)
	}
}

// crowd is a table in which many were asked for at random.
func crowd(r *rand.Rand) api.Table {
	var tab api.Table
	for range 10 + r.Intn(60) {
		if next, _, e := locks.Ask(tab, keys()[r.Intn(11)], name(1+r.Intn(6), 1+r.Intn(3))); e == api.OK {
			tab = next
		}
	}
	return tab
}

// healed frees every hold that is in Wounds, again and again, until there is none: each is held by an older one behind it.
func healed(t *testing.T, tab api.Table) api.Table {
	t.Helper()
	for wounds := locks.Wounds(tab); len(wounds) > 0; wounds = locks.Wounds(tab) {
		for _, h := range wounds {
			next, who, e := locks.Free(tab, h.Key, h.Txn)
			if e != api.OK || !locks.Older(who, h.Txn) || len(next.Held)+len(next.Wait) != len(tab.Held)+len(tab.Wait)-1 {
				t.Fatalf("P16.5: Free(%s, %v): %s, %v, %d", brief(tab), h, brief(next), who, e)
			}
			tab = next
		}
	}
	return tab
}

// TestProgress: where wounds are freed, the oldest one waits for nothing; when it is done, and lets its keys go, so it is with the next one, until nobody waits.
func TestProgress(t *testing.T) {
	waited := 0
	for seed := range int64(300) {
		tab := crowd(rand.New(rand.NewSource(seed)))
		waited += len(tab.Wait)
		for steps := 0; len(tab.Held) > 0; steps++ {
			tab = healed(t, tab)
			holdTable(t, tab)
			first := oldestOf(tab)
			if slices.ContainsFunc(tab.Wait, func(w api.Hold) bool { return w.Txn == first }) || steps > 18 {
				t.Fatalf("P16.5: %v, the oldest one, does not come to hold what it waits for: %s", first, brief(tab))
			}
			for _, h := range tab.Held {
				if h.Txn == first {
					tab, _, _ = locks.Free(tab, h.Key, h.Txn)
				}
			}
		}
		if len(tab.Wait) > 0 {
			t.Fatalf("P16.5: still waiting: %s", brief(tab))
		}
	}
	if waited < 3000 {
		t.Errorf("only %d waited", waited)
	}
}

// roomy is a list with spare room, all of it filled.
func roomy(l []api.Hold) []api.Hold {
	odd := hold(account(7), name(7, 7))
	return append(slices.Clip(slices.Clone(l)), odd, odd, odd)[:len(l)]
}

func whole(t api.Table) api.Table {
	return clone(api.Table{Held: t.Held[:cap(t.Held)], Wait: t.Wait[:cap(t.Wait)]})
}

func spoil(l []api.Hold) {
	for i := range l[:cap(l)] {
		l[:cap(l)][i] = hold(account(-1), name(-1, -1))
	}
}

// TestMemory: what is answered shares nothing with what was handed in, and its lists share nothing.
func TestMemory(t *testing.T) {
	for seed := range int64(100) {
		r := rand.New(rand.NewSource(seed))
		tab := crowd(r)
		tab.Held, tab.Wait = roomy(tab.Held), roomy(tab.Wait)
		was := whole(tab)
		for range 20 {
			key, txn := keys()[r.Intn(11)], name(1+r.Intn(6), 1+r.Intn(4))
			a, _, _ := locks.Ask(tab, key, txn)
			b, _, _ := locks.Free(tab, key, txn)
			for _, next := range []api.Table{a, b} {
				wait := slices.Clone(next.Wait)
				spoil(next.Held)
				if !slices.Equal(next.Wait, wait) {
					t.Fatalf("R5: two lists of one answer share memory")
				}
				spoil(next.Wait)
			}
		}
		spoil(locks.Wounds(tab))
		if !same(whole(tab), was) {
			t.Fatalf("R5: %s became %s", brief(was), brief(whole(tab)))
		}
	}
}
